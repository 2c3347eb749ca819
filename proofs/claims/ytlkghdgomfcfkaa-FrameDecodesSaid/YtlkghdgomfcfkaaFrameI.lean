/-
  Layer 3 (frame), eighth part: the document's Read.
-/
import Derived.Test.YtlkghdgomfcfkaaFrameH
import Derived.OrdersHeld
import Derived.Deep.RegionHeld
namespace Go.Proofs.Ytlkghdgomfcfkaa
open Go.RowKit CrcM
set_option linter.unusedVariables false
set_option linter.unnecessarySimpa false
set_option linter.unusedSimpArgs false

section
variable {P : Program} {md : Region.Mode} {ops : Array Oper} {Q : Exit → Act → World → Prop} {S : World → Prop}

/-- One operation of a region that yields in each world that meets S is taken first. -/
theorem takeH {i d : Nat} {oi : Oper} {v : Value} {fuel : Nat} {listed : Array Bool} {a : Act} {w : World} (hS : S w) (hi : ops[i]? = some oi) (hd : oi.dst = some d)
    (hs : Region.noSelect ops = true) (hf : Region.free md ops listed i = true) (hr : (Region.ready md ops listed).contains i = true)
    (hQ : ∀ c a w, Q (.panic c) (a.put oi.dst v) w → Q (.panic c) a w) (hy : YieldsIf P ops S oi v a)
    (h : wpAnyH P md ops Q S fuel (listed.setIfInBounds i true) (a.put (some d) v) w) : wpAnyH P md ops Q S (fuel + 1) listed a w :=
  wpAnyH_take hi hs hf hr hQ hy hS (by rw [hd]; exact h)

theorem wpOp_of {i : Nat} {o : Oper} {a : Act} {w : World} {K : Act → World → Prop} (ho : ops[i]? = some o) (hw : Region.wanted o (yielded ops a.tmps) = true) (h : ∀ K' : Act → World → Prop, (∀ a w, K a w → K' a w) → Oper.wp P o a w K' Q) : wpOp P ops Q i K a w := by
  refine wpOp_step ho (fun K' hK => ?_)
  rw [if_pos hw]
  exact h K' hK

/-- One operation of a region that must come next; S is shown anew behind it. -/
theorem nextH {i : Nat} {o : Oper} {fuel : Nat} {listed : Array Bool} {a : Act} {w : World} (ho : ops[i]? = some o)
    (hr : Region.ready md ops listed = [i]) (hw : Region.wanted o (yielded ops a.tmps) = true)
    (h : ∀ K' : Act → World → Prop, Shut (∀ a w, S w ∧ wpAnyH P md ops Q S fuel (listed.setIfInBounds i true) a w → K' a w) → Oper.wp P o a w K' Q) : wpAnyH P md ops Q S (fuel + 1) listed a w :=
  wpAnyH_all hr (by simp) (fun j hj => by
    obtain rfl : j = i := by simpa using hj
    exact wpOp_of ho hw h)

/-- Either of two. -/
theorem nextH2 {i k : Nat} {o o' : Oper} {fuel : Nat} {listed : Array Bool} {a : Act} {w : World} (ho : ops[i]? = some o) (ho' : ops[k]? = some o')
    (hr : Region.ready md ops listed = [i, k]) (hw : Region.wanted o (yielded ops a.tmps) = true) (hw' : Region.wanted o' (yielded ops a.tmps) = true)
    (h : ∀ K' : Act → World → Prop, Shut (∀ a w, S w ∧ wpAnyH P md ops Q S fuel (listed.setIfInBounds i true) a w → K' a w) → Oper.wp P o a w K' Q)
    (h' : ∀ K' : Act → World → Prop, Shut (∀ a w, S w ∧ wpAnyH P md ops Q S fuel (listed.setIfInBounds k true) a w → K' a w) → Oper.wp P o' a w K' Q) : wpAnyH P md ops Q S (fuel + 1) listed a w :=
  wpAnyH_all hr (by simp) (fun j hj => by
    have hj' : j = i ∨ j = k := by simpa using hj
    rcases hj' with rfl | rfl
    · exact wpOp_of ho hw h
    · exact wpOp_of ho' hw' h')

/-- A region whose ends are one frame: what follows is walked once. -/
theorem region_cut {id : Nat} {b : Bool} {a : Act} {w : World} (af : Act) (R : World → Prop) (h : (∀ w', R w' → Q .normal af w') → (Code.region id ops b).wp P Q a w) (h' : ∀ w', R w' → Q .normal af w') : (Code.region id ops b).wp P Q a w := h h'

/-- A load, run. -/
theorem exec_load {o : Oper} {a : Act} {w : World} {ty : TypeId} (x : Operand) (ho : o.op = .load ty x) (g : Nat) (hx : a.eval x = .pointer (some ⟨g, 0, none⟩)) {t : TypeId} {cs : Array Value} {d : TypeDesc} (hg : Blk w g t cs)
    (hu : P.underlying ty = some d) (hd : (match d with | .struct _ | .array _ _ => true | _ => false) = true) (hi : (P.info? ty).map (·.size) = some cs.size) : (execOp a.eval o).run P w = .ok (.value (.agg cs)) w := by
  unfold execOp
  simp only [ho, hx, Instr.loadAt, Instr.sureAddr, Sem.run_bind, Sem.run_pure, Result.andThen_ok, run_loadVar_row w g t ty cs (0, 0) d hg hu hd hi]

end

/-- A call that leaves the world, or makes memory alone, keeps this. -/
theorem bel_next {wb w w' : World} (h : Below wb.heap.size wb w) (hb : Below w.heap.size w w') : Below wb.heap.size wb w' := h.trans (hb.mono h.size)

theorem zero_rf (w : World) : (zeroValue 30).run Try.prog w = .ok (.agg (frA fr0)) w := by kernel_rfl

theorem run_slice_a64 (w : World) (g : Nat) :
    (Instr.sliceAt 31 (.pointer (some ⟨g, 0, none⟩)) none none none).run Try.prog w = .ok (.slice (some ⟨g, 0, none⟩) 64 64) w := by
  obtain ⟨i0, hi, hz0, hz1, hz2⟩ := info_parts Try.infoByte
  simp [Instr.sliceAt, Instr.sureAddr, Instr.sliceBounds, Instr.sliceBound, run_underlying Try.underlying31, asIntOf, sizeOf, typeInfo, hi, Addr.add]

theorem frA_setB (f : FrR) (j c : Nat) (hj : j < f.b.length) : (frA f).setIfInBounds (5 + j) (.int .u8 (c : Nat)) = frA { f with b := f.b.set j c } := by
  unfold frA frL
  rw [List.setIfInBounds_toArray, List.set_append_right _ _ (by simp), ← bvals_set]
  simp

theorem body_fill (R : List Nat) (j : Nat) (hj : j < 44) (h : R.length = 44) : (R.take j ++ zeros (44 - j)).set j (R.getD j 0) = R.take (j + 1) ++ zeros (44 - (j + 1)) := by
  have hl : (R.take j).length = j := by rw [List.length_take, h]; omega
  rw [List.set_append_right _ _ (by omega), hl, Nat.sub_self, take_snoc_nat R j (by omega), List.append_assoc]
  congr 1
  have e : zeros (44 - j) = 0 :: zeros (44 - (j + 1)) := by
    unfold zeros; rw [show 44 - j = (44 - (j + 1)) + 1 by omega, List.replicate_succ]
  rw [e, List.set_cons_zero]
  rfl

/-- A slice of a row of 64 bytes. -/
theorem row_mid {w : World} {g : Nat} {bs : List Nat} (h : RowB w (some ⟨g, 0, none⟩) 64 64 bs) (lo hi : Nat) (h1 : lo ≤ hi) (h2 : hi < 64) : RowB w (some ⟨g, lo, none⟩) (hi - lo) (64 - lo) ((bs.drop lo).take (hi - lo)) := by
  have h3 := (h.from lo (by omega)).to (hi - lo) (by omega)
  have e : slAddr (some ⟨g, 0, none⟩) 64 lo = some ⟨g, lo, none⟩ := by unfold slAddr; rw [if_neg (by omega)]; simp [Addr.add_mid]
  rw [e] at h3
  exact h3

/-- What the document's Read makes of a sector, but for its checks. -/
def rdoc (bs : List Nat) : FrR := ⟨(bs.getD 0 0 : Nat), (num ((bs.drop 2).take 2) : Nat), (num ((bs.drop 4).take 2) : Nat), (num ((bs.drop 6).take 4) : Nat), (num ((bs.drop 10).take 6) : Nat), (bs.drop 16).take 44⟩

theorem take_mid (bs : List Nat) (j k n : Nat) (h : j + k ≤ n) : (((bs.take n).drop j).take k) = (bs.drop j).take k := by
  rw [List.drop_take, List.take_take, Nat.min_eq_left (by omega)]
theorem num_single (bs : List Nat) (j : Nat) (h : j < bs.length) : num ((bs.drop j).take 1) = bs.getD j 0 := by
  rw [List.drop_eq_getElem_cons h]; simp only [List.take_succ_cons, List.take_zero, num]; simp [List.getD, h]
theorem rdoc_rd (bs : List Nat) (h : bs.length = 64) : rdoc bs = rd (bs.take 60) := by
  unfold rdoc rd
  rw [take_mid _ 0 1 60 (by decide), take_mid _ 2 2 60 (by decide), take_mid _ 4 2 60 (by decide), take_mid _ 6 4 60 (by decide), take_mid _ 10 6 60 (by decide), take_mid _ 16 44 60 (by decide), num_single bs 0 (by omega)]
theorem wrap_u32n (m : Nat) (h : m < 4294967296) : IntKind.i64.wrap (m : Int) = (m : Int) := by rw [IntKind.wrap_i64]; omega
theorem ver_doc (bs : List Nat) (h : bs.length = 64) : ver (bs.take 60) = bs.getD 1 0 := by
  unfold ver; rw [take_mid _ 1 1 60 (by decide), num_single bs 1 (by omega)]

set_option maxRecDepth 100000 in
set_option maxHeartbeats 4000000 in
theorem rread_sum (bs : List Nat) (w : World) (hl : bs.length = 64) (hb : ∀ c ∈ bs, c < 256) (hs : sm (bs.take 60) ≠ num (bs.drop 60)) :
    Calls Try.prog 17 #[.agg (bA bs)] w (DecPost fr0 11 w) := by
  have HL := Lib.hid hl
  have Hb := Lib.hid hb
  have hz := zero_rf
  have s1 := run_slice_a64
  have hX : Blk ((w.alloc (Obj.cells (bA bs) 31)).alloc (Obj.cells (frA fr0) 30)) w.heap.size 31 (bA bs) := Blk.alloc (Blk.new w 31 (bA bs)) _
  have hO : Blk ((w.alloc (Obj.cells (bA bs) 31)).alloc (Obj.cells (frA fr0) 30)) (w.heap.size + 1) 30 (frA fr0) := by
    have h := Blk.new (w.alloc (Obj.cells (bA bs) 31)) 30 (frA fr0)
    rwa [show (w.alloc (Obj.cells (bA bs) 31)).heap.size = w.heap.size + 1 by simp] at h
  have hB : Below w.heap.size w ((w.alloc (Obj.cells (bA bs) 31)).alloc (Obj.cells (frA fr0) 30)) := bthen (below_alloc _ _) (below_alloc _ _)
  have HX0 : Hid (Blk ((w.alloc (Obj.cells (bA bs) 31)).alloc (Obj.cells (frA fr0) 30)).drew w.heap.size 31 (bA bs)) := Lib.hid hX
  have HR0 : Hid (RowB ((w.alloc (Obj.cells (bA bs) 31)).alloc (Obj.cells (frA fr0) 30)).drew (some ⟨w.heap.size, 0, none⟩) 64 64 bs) := Lib.hid (row_of_blk (w := ((w.alloc (Obj.cells (bA bs) 31)).alloc (Obj.cells (frA fr0) 30)).drew) hX hb 64 hl (by decide))
  have HO0 : Hid (Blk ((w.alloc (Obj.cells (bA bs) 31)).alloc (Obj.cells (frA fr0) 30)).drew (w.heap.size + 1) 30 (frA fr0)) := Lib.hid hO
  have HB0 : Hid (Below w.heap.size w ((w.alloc (Obj.cells (bA bs) 31)).alloc (Obj.cells (frA fr0) 30)).drew) := Lib.hid hB.drew
  have Hs := Lib.hid hs
  clear hs
  clear hl hb hX hO hB
  go_enter Try.func17, Try.ntmps17
  go_wp2_with fail
  clear s1
  have HA60 : Hid (RowB ((w.alloc (Obj.cells (bA bs) 31)).alloc (Obj.cells (frA fr0) 30)).drew (some ⟨w.heap.size, 60, none⟩) 4 4 (bs.drop 60)) := Lib.hid (by
    have h := HR0.out.from 60 (by decide)
    rwa [show slAddr (some ⟨w.heap.size, 0, none⟩) 64 60 = some ⟨w.heap.size, 60, none⟩ by simp [slAddr, Addr.add]] at h)
  have HB60 : Hid (RowB ((w.alloc (Obj.cells (bA bs) 31)).alloc (Obj.cells (frA fr0) 30)).drew (some ⟨w.heap.size, 0, none⟩) 60 64 (bs.take 60)) := Lib.hid (HR0.out.to 60 (by decide))
  refine wp_region_any (by kernel_rfl) ?_
  change wpAny _ _ _ _ _ _ _ (World.drew _)
  generalize ((w.alloc (Obj.cells (bA bs) 31)).alloc (Obj.cells (frA fr0) 30)).drew = u0 at *
  refine take_one (i := 0) (d := 8) (v := .slice (some ⟨w.heap.size, 0, none⟩) 64 64) rfl (by kernel_rfl) (by kernel_rfl) (by kernel_rfl) (by kernel_rfl) (fun _ _ _ h => h) (Or.inl ⟨by kernel_rfl, fun w => by kernel_rfl⟩) ?_
  go_frame
  refine take_one (i := 1) (d := 9) (v := .slice (some ⟨w.heap.size, 60, none⟩) 4 4) rfl (by kernel_rfl) (by kernel_rfl) (by kernel_rfl) (by kernel_rfl) (fun _ _ _ h => h) (Or.inl ⟨by kernel_rfl, fun w => by (first | kernel_rfl | go_simp)⟩) ?_
  refine take_one (i := 3) (d := 11) (v := .slice (some ⟨w.heap.size, 0, none⟩) 64 64) rfl (by kernel_rfl) (by kernel_rfl) (by kernel_rfl) (by kernel_rfl) (fun _ _ _ h => h) (Or.inl ⟨by kernel_rfl, fun w => by kernel_rfl⟩) ?_
  go_frame
  refine take_one (i := 4) (d := 12) (v := .slice (some ⟨w.heap.size, 0, none⟩) 60 64) rfl (by kernel_rfl) (by kernel_rfl) (by kernel_rfl) (by kernel_rfl) (fun _ _ _ h => h) (Or.inl ⟨by kernel_rfl, fun w => by (first | kernel_rfl | go_simp)⟩) ?_
  go_frame
  refine next_one (i := 2) rfl (by kernel_rfl) (by kernel_rfl) (fun K' hK => ?_)
  go_wp2_with fail
  refine (rread_any _ 4 4 (bs.drop 60) _ HA60.out (by decide)).mono ?_
  rintro e wx ⟨rfl, rfl⟩
  generalize hn : num (bs.drop 60) = n at *
  have Hn := Lib.hid hn
  clear hn
  refine hK _ _ ?_
  clear hK K'
  refine next_one (i := 5) rfl (by kernel_rfl) (by kernel_rfl) (fun K' hK => ?_)
  go_wp2_with fail
  refine (rsum_any _ 60 64 (bs.take 60) _ HB60.out).mono ?_
  rintro e wx ⟨rfl, rfl⟩
  have hsb := sm_lt HB60.out.lt
  generalize hm : sm (bs.take 60) = m at *
  have Hm := Lib.hid hm
  clear hm
  refine hK _ _ ?_
  clear hK K'
  refine take_one (i := 6) (d := 14) (v := .int .i64 (m : Nat)) rfl (by kernel_rfl) (by kernel_rfl) (by kernel_rfl) (by kernel_rfl) (fun _ _ _ h => h) (Or.inl ⟨by kernel_rfl, fun w => by (have hw := wrap_u32n m hsb; go_simp)⟩) ?_
  go_frame
  have hne : ((n : Int) != (m : Int)) = true := bne_int (fun e => Hs.out e.symm)
  refine take_one (i := 7) (d := 15) (v := .bool true) rfl (by kernel_rfl) (by kernel_rfl) (by kernel_rfl) (by kernel_rfl) (fun _ _ _ h => h) (Or.inl ⟨by kernel_rfl, fun w => by go_simp⟩) ?_
  refine wpAny_done (by kernel_rfl) ?_ _
  go_frame
  go_wp2_with (first | (refine wpl_build (by kernel_rfl) 30 _ rfl (.agg (frA fr0)) (fun _ => by kernel_rfl) ?_; go_frame) | (refine wpl_store rfl _ _ rfl (w.heap.size + 1) (frA (fr0)) rfl rfl _ _ HO0.out (info_rfA fr0_len) ((frA_size fr0_len).trans (frA_size fr0_len).symm) frA_one ?_; intro w5 hS5 hK5; have HS5 := Lib.hid hS5; have HK5 := Lib.hid hK5; clear hS5 hK5; go_frame))
  refine bodyPost_ret (v := .tuple #[.agg (frA (fr0)), .int .i64 11]) (results_cell_slot Try.results17 _ _ (w.heap.size + 1) _ _ _ _ rfl rfl HS5.out Try.underlying30 rfl (info_rfA fr0_len)) rfl ⟨rfl, ?_⟩
  exact bkept HB0.out (Nat.le_refl _) HK5.out (fun i hi h => by omega)

set_option maxRecDepth 100000 in
set_option maxHeartbeats 4000000 in
theorem rread_rest (bs : List Nat) (w : World) (hl : bs.length = 64) (hb : ∀ c ∈ bs, c < 256) (hs : sm (bs.take 60) = num (bs.drop 60)) :
    Calls Try.prog 17 #[.agg (bA bs)] w (DecPost (decF bs) (decE bs) w) := by
  have HL := Lib.hid hl
  have Hb := Lib.hid hb
  have hz := zero_rf
  have s1 := run_slice_a64
  have hX : Blk ((w.alloc (Obj.cells (bA bs) 31)).alloc (Obj.cells (frA fr0) 30)) w.heap.size 31 (bA bs) := Blk.alloc (Blk.new w 31 (bA bs)) _
  have hO : Blk ((w.alloc (Obj.cells (bA bs) 31)).alloc (Obj.cells (frA fr0) 30)) (w.heap.size + 1) 30 (frA fr0) := by
    have h := Blk.new (w.alloc (Obj.cells (bA bs) 31)) 30 (frA fr0)
    rwa [show (w.alloc (Obj.cells (bA bs) 31)).heap.size = w.heap.size + 1 by simp] at h
  have hB : Below w.heap.size w ((w.alloc (Obj.cells (bA bs) 31)).alloc (Obj.cells (frA fr0) 30)) := bthen (below_alloc _ _) (below_alloc _ _)
  have HX0 : Hid (Blk ((w.alloc (Obj.cells (bA bs) 31)).alloc (Obj.cells (frA fr0) 30)).drew w.heap.size 31 (bA bs)) := Lib.hid hX
  have HR0 : Hid (RowB ((w.alloc (Obj.cells (bA bs) 31)).alloc (Obj.cells (frA fr0) 30)).drew (some ⟨w.heap.size, 0, none⟩) 64 64 bs) := Lib.hid (row_of_blk (w := ((w.alloc (Obj.cells (bA bs) 31)).alloc (Obj.cells (frA fr0) 30)).drew) hX hb 64 hl (by decide))
  have HO0 : Hid (Blk ((w.alloc (Obj.cells (bA bs) 31)).alloc (Obj.cells (frA fr0) 30)).drew (w.heap.size + 1) 30 (frA fr0)) := Lib.hid hO
  have HB0 : Hid (Below w.heap.size w ((w.alloc (Obj.cells (bA bs) 31)).alloc (Obj.cells (frA fr0) 30)).drew) := Lib.hid hB.drew
  have Hs := Lib.hid hs
  clear hs
  clear hl hb hX hO hB
  go_enter Try.func17, Try.ntmps17
  go_wp2_with fail
  clear s1
  have HA60 : Hid (RowB ((w.alloc (Obj.cells (bA bs) 31)).alloc (Obj.cells (frA fr0) 30)).drew (some ⟨w.heap.size, 60, none⟩) 4 4 (bs.drop 60)) := Lib.hid (by
    have h := HR0.out.from 60 (by decide)
    rwa [show slAddr (some ⟨w.heap.size, 0, none⟩) 64 60 = some ⟨w.heap.size, 60, none⟩ by simp [slAddr, Addr.add]] at h)
  have HB60 : Hid (RowB ((w.alloc (Obj.cells (bA bs) 31)).alloc (Obj.cells (frA fr0) 30)).drew (some ⟨w.heap.size, 0, none⟩) 60 64 (bs.take 60)) := Lib.hid (HR0.out.to 60 (by decide))
  refine wp_region_any (by kernel_rfl) ?_
  change wpAny _ _ _ _ _ _ _ (World.drew _)
  generalize ((w.alloc (Obj.cells (bA bs) 31)).alloc (Obj.cells (frA fr0) 30)).drew = u0 at *
  refine take_one (i := 0) (d := 8) (v := .slice (some ⟨w.heap.size, 0, none⟩) 64 64) rfl (by kernel_rfl) (by kernel_rfl) (by kernel_rfl) (by kernel_rfl) (fun _ _ _ h => h) (Or.inl ⟨by kernel_rfl, fun w => by kernel_rfl⟩) ?_
  go_frame
  refine take_one (i := 1) (d := 9) (v := .slice (some ⟨w.heap.size, 60, none⟩) 4 4) rfl (by kernel_rfl) (by kernel_rfl) (by kernel_rfl) (by kernel_rfl) (fun _ _ _ h => h) (Or.inl ⟨by kernel_rfl, fun w => by (first | kernel_rfl | go_simp)⟩) ?_
  refine take_one (i := 3) (d := 11) (v := .slice (some ⟨w.heap.size, 0, none⟩) 64 64) rfl (by kernel_rfl) (by kernel_rfl) (by kernel_rfl) (by kernel_rfl) (fun _ _ _ h => h) (Or.inl ⟨by kernel_rfl, fun w => by kernel_rfl⟩) ?_
  go_frame
  refine take_one (i := 4) (d := 12) (v := .slice (some ⟨w.heap.size, 0, none⟩) 60 64) rfl (by kernel_rfl) (by kernel_rfl) (by kernel_rfl) (by kernel_rfl) (fun _ _ _ h => h) (Or.inl ⟨by kernel_rfl, fun w => by (first | kernel_rfl | go_simp)⟩) ?_
  go_frame
  refine next_one (i := 2) rfl (by kernel_rfl) (by kernel_rfl) (fun K' hK => ?_)
  go_wp2_with fail
  refine (rread_any _ 4 4 (bs.drop 60) _ HA60.out (by decide)).mono ?_
  rintro e wx ⟨rfl, rfl⟩
  generalize hn : num (bs.drop 60) = n at *
  have Hn := Lib.hid hn
  clear hn
  refine hK _ _ ?_
  clear hK K'
  refine next_one (i := 5) rfl (by kernel_rfl) (by kernel_rfl) (fun K' hK => ?_)
  go_wp2_with fail
  refine (rsum_any _ 60 64 (bs.take 60) _ HB60.out).mono ?_
  rintro e wx ⟨rfl, rfl⟩
  have hsb := sm_lt HB60.out.lt
  generalize hm : sm (bs.take 60) = m at *
  have Hm := Lib.hid hm
  clear hm
  refine hK _ _ ?_
  clear hK K'
  refine take_one (i := 6) (d := 14) (v := .int .i64 (m : Nat)) rfl (by kernel_rfl) (by kernel_rfl) (by kernel_rfl) (by kernel_rfl) (fun _ _ _ h => h) (Or.inl ⟨by kernel_rfl, fun w => by (have hw := wrap_u32n m hsb; go_simp)⟩) ?_
  go_frame
  have hne : ((n : Int) != (m : Int)) = false := by rw [show n = m from (Hs.out).symm]; simp
  refine take_one (i := 7) (d := 15) (v := .bool false) rfl (by kernel_rfl) (by kernel_rfl) (by kernel_rfl) (by kernel_rfl) (fun _ _ _ h => h) (Or.inl ⟨by kernel_rfl, fun w => by go_simp⟩) ?_
  refine wpAny_done (by kernel_rfl) ?_ _
  go_frame
  go_wp2_with fail
  clear hne hsb HA60 HB60
  have HM1 : Hid (RowB u0 (some ⟨w.heap.size, 2, none⟩) 2 62 ((bs.drop 2).take 2)) := Lib.hid (row_mid HR0.out 2 4 (by decide) (by decide))
  have HM2 : Hid (RowB u0 (some ⟨w.heap.size, 4, none⟩) 2 60 ((bs.drop 4).take 2)) := Lib.hid (row_mid HR0.out 4 6 (by decide) (by decide))
  have HM3 : Hid (RowB u0 (some ⟨w.heap.size, 6, none⟩) 4 58 ((bs.drop 6).take 4)) := Lib.hid (row_mid HR0.out 6 10 (by decide) (by decide))
  have HM4 : Hid (RowB u0 (some ⟨w.heap.size, 10, none⟩) 6 54 ((bs.drop 10).take 6)) := Lib.hid (row_mid HR0.out 10 16 (by decide) (by decide))
  obtain ⟨n1, HN1⟩ : ∃ n1, Hid (num ((bs.drop 2).take 2) = n1) := ⟨_, Lib.hid rfl⟩
  obtain ⟨n2, HN2⟩ : ∃ n2, Hid (num ((bs.drop 4).take 2) = n2) := ⟨_, Lib.hid rfl⟩
  obtain ⟨n3, HN3⟩ : ∃ n3, Hid (num ((bs.drop 6).take 4) = n3) := ⟨_, Lib.hid rfl⟩
  obtain ⟨n4, HN4⟩ : ∃ n4, Hid (num ((bs.drop 10).take 6) = n4) := ⟨_, Lib.hid rfl⟩
  obtain ⟨c0, HC0⟩ : ∃ c0, Hid (bs.getD 0 0 = c0) := ⟨_, Lib.hid rfl⟩
  have hc0 : c0 < 256 := by rw [← HC0.out]; exact getD_lt Hb.out 0
  have hw0 : IntKind.i64.wrap (c0 : Int) = (c0 : Int) := wrap_u32n c0 (by omega)
  have Hcell0 : Hid (∀ w', Below u0.heap.size u0 w' → w'.cell? ⟨w.heap.size, 0, none⟩ = some (.int .u8 (c0 : Nat))) := Lib.hid (fun w' hw => by
    rw [← HC0.out]; exact ((HX0.out.below hw HX0.out.lt).cell 0).trans (bA_at bs 0 (by rw [HL.out]; decide)))
  refine region_cut ?af (fun w' => Blk w' u0.heap.size 30 (frA ⟨(c0 : Nat), (n1 : Nat), (n2 : Nat), (n3 : Nat), (n4 : Nat), zeros 44⟩) ∧ Below u0.heap.size u0 w') ?h2 ?h1
  case h2 =>
    intro hcut
    refine wp_region_held (S := fun w' => Below u0.heap.size u0 w') (by kernel_rfl) ?_
    change wpAnyH _ _ _ _ _ _ _ _ (World.drew _)
    have hS : Below u0.heap.size u0 u0.drew := (Below.refl _ _).drew
    refine takeH hS (i := 0) (d := 17) (v := .pointer (some ⟨w.heap.size, 0, none⟩)) rfl rfl (by kernel_rfl) (by kernel_rfl) (by kernel_rfl) (fun _ _ _ h => h) (Or.inl ⟨by kernel_rfl, fun w' hw' => by kernel_rfl⟩) ?_
    go_frame
    refine takeH hS (i := 1) (d := 18) (v := .int .u8 (c0 : Nat)) rfl rfl (by kernel_rfl) (by kernel_rfl) (by kernel_rfl) (fun _ _ _ h => h) (Or.inl ⟨by kernel_rfl, fun w' hw' => by (have hc := Hcell0.out w' hw'; go_simp)⟩) ?_
    go_frame
    refine takeH hS (i := 2) (d := 19) (v := .int .i64 (c0 : Nat)) rfl rfl (by kernel_rfl) (by kernel_rfl) (by kernel_rfl) (fun _ _ _ h => h) (Or.inl ⟨by kernel_rfl, fun w' hw' => by go_simp⟩) ?_
    go_frame
    refine takeH hS (i := 3) (d := 20) (v := .slice (some ⟨w.heap.size, 0, none⟩) 64 64) rfl rfl (by kernel_rfl) (by kernel_rfl) (by kernel_rfl) (fun _ _ _ h => h) (Or.inl ⟨by kernel_rfl, fun w' hw' => by kernel_rfl⟩) ?_
    go_frame
    refine takeH hS (i := 4) (d := 21) (v := .slice (some ⟨w.heap.size, 2, none⟩) 2 62) rfl rfl (by kernel_rfl) (by kernel_rfl) (by kernel_rfl) (fun _ _ _ h => h) (Or.inl ⟨by kernel_rfl, fun w' hw' => by kernel_rfl⟩) ?_
    go_frame
    refine takeH hS (i := 6) (d := 23) (v := .slice (some ⟨w.heap.size, 0, none⟩) 64 64) rfl rfl (by kernel_rfl) (by kernel_rfl) (by kernel_rfl) (fun _ _ _ h => h) (Or.inl ⟨by kernel_rfl, fun w' hw' => by kernel_rfl⟩) ?_
    go_frame
    refine takeH hS (i := 7) (d := 24) (v := .slice (some ⟨w.heap.size, 4, none⟩) 2 60) rfl rfl (by kernel_rfl) (by kernel_rfl) (by kernel_rfl) (fun _ _ _ h => h) (Or.inl ⟨by kernel_rfl, fun w' hw' => by kernel_rfl⟩) ?_
    go_frame
    refine takeH hS (i := 9) (d := 26) (v := .slice (some ⟨w.heap.size, 0, none⟩) 64 64) rfl rfl (by kernel_rfl) (by kernel_rfl) (by kernel_rfl) (fun _ _ _ h => h) (Or.inl ⟨by kernel_rfl, fun w' hw' => by kernel_rfl⟩) ?_
    go_frame
    refine takeH hS (i := 10) (d := 27) (v := .slice (some ⟨w.heap.size, 6, none⟩) 4 58) rfl rfl (by kernel_rfl) (by kernel_rfl) (by kernel_rfl) (fun _ _ _ h => h) (Or.inl ⟨by kernel_rfl, fun w' hw' => by kernel_rfl⟩) ?_
    go_frame
    refine takeH hS (i := 12) (d := 29) (v := .slice (some ⟨w.heap.size, 0, none⟩) 64 64) rfl rfl (by kernel_rfl) (by kernel_rfl) (by kernel_rfl) (fun _ _ _ h => h) (Or.inl ⟨by kernel_rfl, fun w' hw' => by kernel_rfl⟩) ?_
    go_frame
    refine takeH hS (i := 13) (d := 30) (v := .slice (some ⟨w.heap.size, 10, none⟩) 6 54) rfl rfl (by kernel_rfl) (by kernel_rfl) (by kernel_rfl) (fun _ _ _ h => h) (Or.inl ⟨by kernel_rfl, fun w' hw' => by kernel_rfl⟩) ?_
    go_frame
    refine nextH2 (i := 5) (k := 16) rfl rfl (by kernel_rfl) (by kernel_rfl) (by kernel_rfl) (fun K' hK => ?_) (fun K' hK => ?_)
    · go_wp2_with fail
      refine (rread_any _ _ _ _ _ (HM1.out.below hS) (by decide)).mono ?_
      rintro e wx ⟨rfl, rfl⟩
      rw [HN1.out]
      refine hK.out _ _ ⟨hS, ?_⟩
      clear hK K'
      refine nextH2 (i := 8) (k := 16) rfl rfl (by kernel_rfl) (by kernel_rfl) (by kernel_rfl) (fun K' hK => ?_) (fun K' hK => ?_)
      · go_wp2_with fail
        refine (rread_any _ _ _ _ _ (HM2.out.below hS) (by decide)).mono ?_
        rintro e wx ⟨rfl, rfl⟩
        rw [HN2.out]
        refine hK.out _ _ ⟨hS, ?_⟩
        clear hK K'
        refine nextH2 (i := 11) (k := 16) rfl rfl (by kernel_rfl) (by kernel_rfl) (by kernel_rfl) (fun K' hK => ?_) (fun K' hK => ?_)
        · go_wp2_with fail
          refine (rread_any _ _ _ _ _ (HM3.out.below hS) (by decide)).mono ?_
          rintro e wx ⟨rfl, rfl⟩
          rw [HN3.out]
          refine hK.out _ _ ⟨hS, ?_⟩
          clear hK K'
          refine nextH2 (i := 14) (k := 16) rfl rfl (by kernel_rfl) (by kernel_rfl) (by kernel_rfl) (fun K' hK => ?_) (fun K' hK => ?_)
          · go_wp2_with fail
            refine (rread_any _ _ _ _ _ (HM4.out.below hS) (by decide)).mono ?_
            rintro e wx ⟨rfl, rfl⟩
            rw [HN4.out]
            refine hK.out _ _ ⟨hS, ?_⟩
            clear hK K'
            refine takeH hS (i := 15) (d := 32) (v := .agg (frA ⟨(c0 : Nat), (n1 : Nat), (n2 : Nat), (n3 : Nat), (n4 : Nat), zeros 44⟩)) rfl rfl (by kernel_rfl) (by kernel_rfl) (by kernel_rfl) (fun _ _ _ h => h) (Or.inl ⟨by kernel_rfl, fun w' hw' => by kernel_rfl⟩) ?_
            refine nextH (i := 16) rfl (by kernel_rfl) (by kernel_rfl) (fun K' hK => ?_)
            go_wp2_with fail
            have hS2 : Below u0.heap.size u0 (u0.drew.alloc (Obj.cells (frA fr0) 30)) := bthen hS (below_alloc _ _)
            have hN : Blk (u0.drew.alloc (Obj.cells (frA fr0) 30)) u0.heap.size 30 (frA fr0) := Blk.new u0.drew _ _
            refine hK.out _ _ ⟨hS2, ?_⟩
            clear hK K'
            refine nextH (i := 17) rfl (by kernel_rfl) (by kernel_rfl) (fun K' hK => ?_)
            refine wp_store_row 30 _ _ rfl u0.heap.size (frA ⟨(c0 : Nat), (n1 : Nat), (n2 : Nat), (n3 : Nat), (n4 : Nat), zeros 44⟩) rfl rfl 30 (frA fr0) hN (info_rfA (zeros_length 44)) ((frA_size fr0_len).trans (frA_size (zeros_length 44)).symm) frA_one ?_
            refine hK.out _ _ ⟨below_setRow hS2 (Nat.le_refl _) _, ?_⟩
            clear hK K'
            refine wpAnyH_done (by kernel_rfl) ?_ _
            go_frame
            exact hcut _ ⟨Blk.setRow (t := 30) (old := frA fr0) hN, below_setRow hS2 (Nat.le_refl _) _⟩
          · go_wp2_with fail
            have hS2 : Below u0.heap.size u0 (u0.drew.alloc (Obj.cells (frA fr0) 30)) := bthen hS (below_alloc _ _)
            have hN : Blk (u0.drew.alloc (Obj.cells (frA fr0) 30)) u0.heap.size 30 (frA fr0) := Blk.new u0.drew _ _
            refine hK.out _ _ ⟨hS2, ?_⟩
            clear hK K'
            refine nextH (i := 14) rfl (by kernel_rfl) (by kernel_rfl) (fun K' hK => ?_)
            go_wp2_with fail
            refine (rread_any _ _ _ _ _ (HM4.out.below hS2) (by decide)).mono ?_
            rintro e wx ⟨rfl, rfl⟩
            rw [HN4.out]
            refine hK.out _ _ ⟨hS2, ?_⟩
            clear hK K'
            refine takeH hS2 (i := 15) (d := 32) (v := .agg (frA ⟨(c0 : Nat), (n1 : Nat), (n2 : Nat), (n3 : Nat), (n4 : Nat), zeros 44⟩)) rfl rfl (by kernel_rfl) (by kernel_rfl) (by kernel_rfl) (fun _ _ _ h => h) (Or.inl ⟨by kernel_rfl, fun w' hw' => by kernel_rfl⟩) ?_
            refine nextH (i := 17) rfl (by kernel_rfl) (by kernel_rfl) (fun K' hK => ?_)
            refine wp_store_row 30 _ _ rfl u0.heap.size (frA ⟨(c0 : Nat), (n1 : Nat), (n2 : Nat), (n3 : Nat), (n4 : Nat), zeros 44⟩) rfl rfl 30 (frA fr0) hN (info_rfA (zeros_length 44)) ((frA_size fr0_len).trans (frA_size (zeros_length 44)).symm) frA_one ?_
            refine hK.out _ _ ⟨below_setRow hS2 (Nat.le_refl _) _, ?_⟩
            clear hK K'
            refine wpAnyH_done (by kernel_rfl) ?_ _
            go_frame
            exact hcut _ ⟨Blk.setRow (t := 30) (old := frA fr0) hN, below_setRow hS2 (Nat.le_refl _) _⟩
        · go_wp2_with fail
          have hS2 : Below u0.heap.size u0 (u0.drew.alloc (Obj.cells (frA fr0) 30)) := bthen hS (below_alloc _ _)
          have hN : Blk (u0.drew.alloc (Obj.cells (frA fr0) 30)) u0.heap.size 30 (frA fr0) := Blk.new u0.drew _ _
          refine hK.out _ _ ⟨hS2, ?_⟩
          clear hK K'
          refine nextH (i := 11) rfl (by kernel_rfl) (by kernel_rfl) (fun K' hK => ?_)
          go_wp2_with fail
          refine (rread_any _ _ _ _ _ (HM3.out.below hS2) (by decide)).mono ?_
          rintro e wx ⟨rfl, rfl⟩
          rw [HN3.out]
          refine hK.out _ _ ⟨hS2, ?_⟩
          clear hK K'
          refine nextH (i := 14) rfl (by kernel_rfl) (by kernel_rfl) (fun K' hK => ?_)
          go_wp2_with fail
          refine (rread_any _ _ _ _ _ (HM4.out.below hS2) (by decide)).mono ?_
          rintro e wx ⟨rfl, rfl⟩
          rw [HN4.out]
          refine hK.out _ _ ⟨hS2, ?_⟩
          clear hK K'
          refine takeH hS2 (i := 15) (d := 32) (v := .agg (frA ⟨(c0 : Nat), (n1 : Nat), (n2 : Nat), (n3 : Nat), (n4 : Nat), zeros 44⟩)) rfl rfl (by kernel_rfl) (by kernel_rfl) (by kernel_rfl) (fun _ _ _ h => h) (Or.inl ⟨by kernel_rfl, fun w' hw' => by kernel_rfl⟩) ?_
          refine nextH (i := 17) rfl (by kernel_rfl) (by kernel_rfl) (fun K' hK => ?_)
          refine wp_store_row 30 _ _ rfl u0.heap.size (frA ⟨(c0 : Nat), (n1 : Nat), (n2 : Nat), (n3 : Nat), (n4 : Nat), zeros 44⟩) rfl rfl 30 (frA fr0) hN (info_rfA (zeros_length 44)) ((frA_size fr0_len).trans (frA_size (zeros_length 44)).symm) frA_one ?_
          refine hK.out _ _ ⟨below_setRow hS2 (Nat.le_refl _) _, ?_⟩
          clear hK K'
          refine wpAnyH_done (by kernel_rfl) ?_ _
          go_frame
          exact hcut _ ⟨Blk.setRow (t := 30) (old := frA fr0) hN, below_setRow hS2 (Nat.le_refl _) _⟩
      · go_wp2_with fail
        have hS2 : Below u0.heap.size u0 (u0.drew.alloc (Obj.cells (frA fr0) 30)) := bthen hS (below_alloc _ _)
        have hN : Blk (u0.drew.alloc (Obj.cells (frA fr0) 30)) u0.heap.size 30 (frA fr0) := Blk.new u0.drew _ _
        refine hK.out _ _ ⟨hS2, ?_⟩
        clear hK K'
        refine nextH (i := 8) rfl (by kernel_rfl) (by kernel_rfl) (fun K' hK => ?_)
        go_wp2_with fail
        refine (rread_any _ _ _ _ _ (HM2.out.below hS2) (by decide)).mono ?_
        rintro e wx ⟨rfl, rfl⟩
        rw [HN2.out]
        refine hK.out _ _ ⟨hS2, ?_⟩
        clear hK K'
        refine nextH (i := 11) rfl (by kernel_rfl) (by kernel_rfl) (fun K' hK => ?_)
        go_wp2_with fail
        refine (rread_any _ _ _ _ _ (HM3.out.below hS2) (by decide)).mono ?_
        rintro e wx ⟨rfl, rfl⟩
        rw [HN3.out]
        refine hK.out _ _ ⟨hS2, ?_⟩
        clear hK K'
        refine nextH (i := 14) rfl (by kernel_rfl) (by kernel_rfl) (fun K' hK => ?_)
        go_wp2_with fail
        refine (rread_any _ _ _ _ _ (HM4.out.below hS2) (by decide)).mono ?_
        rintro e wx ⟨rfl, rfl⟩
        rw [HN4.out]
        refine hK.out _ _ ⟨hS2, ?_⟩
        clear hK K'
        refine takeH hS2 (i := 15) (d := 32) (v := .agg (frA ⟨(c0 : Nat), (n1 : Nat), (n2 : Nat), (n3 : Nat), (n4 : Nat), zeros 44⟩)) rfl rfl (by kernel_rfl) (by kernel_rfl) (by kernel_rfl) (fun _ _ _ h => h) (Or.inl ⟨by kernel_rfl, fun w' hw' => by kernel_rfl⟩) ?_
        refine nextH (i := 17) rfl (by kernel_rfl) (by kernel_rfl) (fun K' hK => ?_)
        refine wp_store_row 30 _ _ rfl u0.heap.size (frA ⟨(c0 : Nat), (n1 : Nat), (n2 : Nat), (n3 : Nat), (n4 : Nat), zeros 44⟩) rfl rfl 30 (frA fr0) hN (info_rfA (zeros_length 44)) ((frA_size fr0_len).trans (frA_size (zeros_length 44)).symm) frA_one ?_
        refine hK.out _ _ ⟨below_setRow hS2 (Nat.le_refl _) _, ?_⟩
        clear hK K'
        refine wpAnyH_done (by kernel_rfl) ?_ _
        go_frame
        exact hcut _ ⟨Blk.setRow (t := 30) (old := frA fr0) hN, below_setRow hS2 (Nat.le_refl _) _⟩
    · go_wp2_with fail
      have hS2 : Below u0.heap.size u0 (u0.drew.alloc (Obj.cells (frA fr0) 30)) := bthen hS (below_alloc _ _)
      have hN : Blk (u0.drew.alloc (Obj.cells (frA fr0) 30)) u0.heap.size 30 (frA fr0) := Blk.new u0.drew _ _
      refine hK.out _ _ ⟨hS2, ?_⟩
      clear hK K'
      refine nextH (i := 5) rfl (by kernel_rfl) (by kernel_rfl) (fun K' hK => ?_)
      go_wp2_with fail
      refine (rread_any _ _ _ _ _ (HM1.out.below hS2) (by decide)).mono ?_
      rintro e wx ⟨rfl, rfl⟩
      rw [HN1.out]
      refine hK.out _ _ ⟨hS2, ?_⟩
      clear hK K'
      refine nextH (i := 8) rfl (by kernel_rfl) (by kernel_rfl) (fun K' hK => ?_)
      go_wp2_with fail
      refine (rread_any _ _ _ _ _ (HM2.out.below hS2) (by decide)).mono ?_
      rintro e wx ⟨rfl, rfl⟩
      rw [HN2.out]
      refine hK.out _ _ ⟨hS2, ?_⟩
      clear hK K'
      refine nextH (i := 11) rfl (by kernel_rfl) (by kernel_rfl) (fun K' hK => ?_)
      go_wp2_with fail
      refine (rread_any _ _ _ _ _ (HM3.out.below hS2) (by decide)).mono ?_
      rintro e wx ⟨rfl, rfl⟩
      rw [HN3.out]
      refine hK.out _ _ ⟨hS2, ?_⟩
      clear hK K'
      refine nextH (i := 14) rfl (by kernel_rfl) (by kernel_rfl) (fun K' hK => ?_)
      go_wp2_with fail
      refine (rread_any _ _ _ _ _ (HM4.out.below hS2) (by decide)).mono ?_
      rintro e wx ⟨rfl, rfl⟩
      rw [HN4.out]
      refine hK.out _ _ ⟨hS2, ?_⟩
      clear hK K'
      refine takeH hS2 (i := 15) (d := 32) (v := .agg (frA ⟨(c0 : Nat), (n1 : Nat), (n2 : Nat), (n3 : Nat), (n4 : Nat), zeros 44⟩)) rfl rfl (by kernel_rfl) (by kernel_rfl) (by kernel_rfl) (fun _ _ _ h => h) (Or.inl ⟨by kernel_rfl, fun w' hw' => by kernel_rfl⟩) ?_
      refine nextH (i := 17) rfl (by kernel_rfl) (by kernel_rfl) (fun K' hK => ?_)
      refine wp_store_row 30 _ _ rfl u0.heap.size (frA ⟨(c0 : Nat), (n1 : Nat), (n2 : Nat), (n3 : Nat), (n4 : Nat), zeros 44⟩) rfl rfl 30 (frA fr0) hN (info_rfA (zeros_length 44)) ((frA_size fr0_len).trans (frA_size (zeros_length 44)).symm) frA_one ?_
      refine hK.out _ _ ⟨below_setRow hS2 (Nat.le_refl _) _, ?_⟩
      clear hK K'
      refine wpAnyH_done (by kernel_rfl) ?_ _
      go_frame
      exact hcut _ ⟨Blk.setRow (t := 30) (old := frA fr0) hN, below_setRow hS2 (Nat.le_refl _) _⟩
  case h1 =>
    rintro u1 ⟨hF1, hB1⟩
    have HF1 := Lib.hid hF1
    have HX1 := Lib.hid (HX0.out.below hB1 HX0.out.lt)
    have HO1 := Lib.hid (HO0.out.below hB1 HO0.out.lt)
    have HBw := Lib.hid (bthen HB0.out hB1)
    have HLt : Hid (w.heap.size + 1 < u0.heap.size) := Lib.hid HO0.out.lt
    obtain ⟨B, HBd⟩ : ∃ B, Hid ((bs.drop 16).take 44 = B) := ⟨_, Lib.hid rfl⟩
    have HBl : Hid (B.length = 44) := Lib.hid (by rw [← HBd.out, List.length_take, List.length_drop, HL.out]; decide)
    have HBat : Hid (∀ j, j < 44 → bs.getD (16 + j) 0 = B.getD j 0) := Lib.hid (fun j hj => by
      rw [← HBd.out]; simp [List.getD, List.getElem?_take_of_lt hj, List.getElem?_drop])
    have Hsnd : Hid (soundB bs = true) := Lib.hid (by unfold soundB; rw [Hm.out, Hn.out, Hs.out]; simp)
    clear hF1 hB1 hw0 HM1 HM2 HM3 HM4 Hcell0 HX0 HR0 HO0 HB0 hz
    go_wp2_with fail
    go_loopw [6] (fun i wr => ∃ j : Nat, j ≤ 44 ∧ i = .int .i64 j ∧ Blk wr u0.heap.size 30 (frA ⟨(c0 : Nat), (n1 : Nat), (n2 : Nat), (n3 : Nat), (n4 : Nat), B.take j ++ zeros (44 - j)⟩) ∧ Kept (· = u0.heap.size) u1 wr) (fun i _ => 44 - (intOf i).toNat)
    case atStart => exact ⟨0, Nat.zero_le _, rfl, by rw [List.take_zero, List.nil_append]; exact HF1.out, Kept.refl _ _⟩
    case round =>
      obtain ⟨j, hj, rfl, hg, hkp⟩ := hrel
      have Hg := Lib.hid hg
      have Hk := Lib.hid hkp
      clear hg hkp
      have HX2 := Lib.hid (HX1.out.kept Hk.out (by have := HLt.out; omega))
      by_cases hlt : j < 44
      · have cs := (HX2.out.cell (16 + j)).trans (bA_at bs (16 + j) (by rw [HL.out]; omega))
        rw [HBat.out j hlt] at cs
        have hbl : (B.take j ++ zeros (44 - j)).length = 44 := by rw [List.length_append, List.length_take, HBl.out, zeros_length]; omega
        have fx := Hg.out.frozen (5 + j)
        have cx := (Hg.out.cell (5 + j)).trans (frA_body _ j (by rw [hbl]; exact hlt))
        have hgs := Hg.out.set (5 + j) (.int .u8 (B.getD j 0 : Nat))
        rw [frA_setB _ j _ (by rw [hbl]; exact hlt), body_fill B j hlt HBl.out] at hgs
        have Hgs := Lib.hid hgs
        generalize B.getD j 0 = c at *
        generalize FrR.b _ = bb at cx
        generalize bb.getD j 0 = y at *
        clear hgs hbl
        go_wp2_with fail
        go_roundw
        case rel => exact ⟨j + 1, by omega, by go_num, Hgs.out, Hk.out.setCell rfl _⟩
        case measure => simp [intOf]; omega
      · obtain rfl : j = 44 := by omega
        have hf : (⟨(c0 : Nat), (n1 : Nat), (n2 : Nat), (n3 : Nat), (n4 : Nat), B.take 44 ++ zeros (44 - 44)⟩ : FrR) = rd (bs.take 60) := by
          rw [← rdoc_rd bs HL.out]
          unfold rdoc
          rw [HC0.out, HN1.out, HN2.out, HN3.out, HN4.out, HBd.out, List.take_of_length_le (by rw [HBl.out]; decide)]
          simp [zeros]
        have hg2 := Hg.out
        rw [hf] at hg2
        have HF2 := Lib.hid hg2
        have HLr : Hid ((rd (bs.take 60)).b.length = 44) := Lib.hid (rd_len (by rw [List.length_take, HL.out]; decide))
        have HO2 := Lib.hid (HO1.out.kept Hk.out (by have := HLt.out; omega))
        have HB2 := Lib.hid (bkept HBw.out (Nat.le_refl _) Hk.out (fun i hi h => by have := HLt.out; omega))
        have c1 := (HX2.out.cell 1).trans (bA_at bs 1 (by rw [HL.out]; decide))
        have Hver : Hid (ver (bs.take 60) = bs.getD 1 0) := Lib.hid (ver_doc bs HL.out)
        have HdE : Hid (∀ b, formB bs = b → decF bs = (if b = true then rd (bs.take 60) else fr0) ∧ decE bs = if b = true then 0 else 10) := Lib.hid (fun b hb => by
          unfold decF decE; rw [Hsnd.out, hb]; simp)
        have HfB : Hid (formB bs = (decide (bs.getD 1 0 = 1) && rightB (rd (bs.take 60)))) := Lib.hid (by unfold formB; rw [Hver.out])
        clear hg2 hf Hg Hk HX2 HX1 HO1 HBw
        generalize bs.getD 1 0 = v at *
        generalize rd (bs.take 60) = f at *
        by_cases hv : v = 1
        · subst hv
          go_wp2_with (first | (refine wpl_load_g (by kernel_rfl) _ rfl (u0.heap.size) rfl _ _ _ HF2.out Try.underlying30 rfl (info_rfA HLr.out) ?_; go_frame))
          refine (rright_any f _).mono ?_
          rintro e w5 ⟨rfl, hb5⟩
          have HB5 := Lib.hid (bthen HB2.out hb5)
          have HO5 := Lib.hid (HO2.out.below hb5 HO2.out.lt)
          have HF5 := Lib.hid (HF2.out.below hb5 HF2.out.lt)
          clear hb5 HB2 HO2 HF2 c1
          cases hr : rightB f with
          | true =>
            obtain ⟨h1, h2⟩ := HdE.out true (by rw [HfB.out, hr]; simp)
            have H1 : Hid (decF bs = f) := Lib.hid h1
            have H2 : Hid (decE bs = 0) := Lib.hid h2
            clear h1 h2 hr
            go_wp2_with (first | (refine wpl_load rfl _ rfl (u0.heap.size) rfl _ _ _ HF5.out Try.underlying30 rfl (info_rfA HLr.out) ?_; go_frame) | (refine wpl_store rfl _ _ rfl (w.heap.size + 1) (frA (f)) rfl rfl _ _ HO5.out (info_rfA HLr.out) ((frA_size fr0_len).trans (frA_size HLr.out).symm) frA_one ?_; intro w6 hS6 hK6; have HS6 := Lib.hid hS6; have HK6 := Lib.hid hK6; clear hS6 hK6; go_frame))
            refine bodyPost_ret (v := .tuple #[.agg (frA f), .int .i64 0]) (results_cell_slot Try.results17 _ _ (w.heap.size + 1) _ _ _ _ rfl rfl HS6.out Try.underlying30 rfl (info_rfA HLr.out)) rfl ⟨by rw [H1.out, H2.out], ?_⟩
            exact bkept HB5.out (Nat.le_refl _) HK6.out (fun i hi h => by omega)
          | false =>
            obtain ⟨h1, h2⟩ := HdE.out false (by rw [HfB.out, hr]; simp)
            have H1 : Hid (decF bs = fr0) := Lib.hid h1
            have H2 : Hid (decE bs = 10) := Lib.hid h2
            clear h1 h2 hr
            go_wp2_with (first | (refine wpl_build (by kernel_rfl) 30 _ rfl (.agg (frA fr0)) (fun _ => by kernel_rfl) ?_; go_frame) | (refine wpl_store rfl _ _ rfl (w.heap.size + 1) (frA (fr0)) rfl rfl _ _ HO5.out (info_rfA fr0_len) ((frA_size fr0_len).trans (frA_size fr0_len).symm) frA_one ?_; intro w6 hS6 hK6; have HS6 := Lib.hid hS6; have HK6 := Lib.hid hK6; clear hS6 hK6; go_frame))
            refine bodyPost_ret (v := .tuple #[.agg (frA fr0), .int .i64 10]) (results_cell_slot Try.results17 _ _ (w.heap.size + 1) _ _ _ _ rfl rfl HS6.out Try.underlying30 rfl (info_rfA fr0_len)) rfl ⟨by rw [H1.out, H2.out], ?_⟩
            exact bkept HB5.out (Nat.le_refl _) HK6.out (fun i hi h => by omega)
        · have hv1 : ((v : Int) != 1) = true := by rw [bne_iff_ne]; omega
          obtain ⟨h1, h2⟩ := HdE.out false (by rw [HfB.out, decide_eq_false hv]; rfl)
          have H1 : Hid (decF bs = fr0) := Lib.hid h1
          have H2 : Hid (decE bs = 10) := Lib.hid h2
          clear h1 h2 hv
          go_wp2_with (first | (refine wpl_build (by kernel_rfl) 30 _ rfl (.agg (frA fr0)) (fun _ => by kernel_rfl) ?_; go_frame) | (refine wpl_store rfl _ _ rfl (w.heap.size + 1) (frA (fr0)) rfl rfl _ _ HO2.out (info_rfA fr0_len) ((frA_size fr0_len).trans (frA_size fr0_len).symm) frA_one ?_; intro w6 hS6 hK6; have HS6 := Lib.hid hS6; have HK6 := Lib.hid hK6; clear hS6 hK6; go_frame))
          refine bodyPost_ret (v := .tuple #[.agg (frA fr0), .int .i64 10]) (results_cell_slot Try.results17 _ _ (w.heap.size + 1) _ _ _ _ rfl rfl HS6.out Try.underlying30 rfl (info_rfA fr0_len)) rfl ⟨by rw [H1.out, H2.out], ?_⟩
          exact bkept HB2.out (Nat.le_refl _) HK6.out (fun i hi h => by omega)

theorem rreadF_any (bs : List Nat) (w : World) (hl : bs.length = 64) (hb : ∀ c ∈ bs, c < 256) :
    Calls Try.prog 17 #[.agg (bA bs)] w (DecPost (decF bs) (decE bs) w) := by
  by_cases h : sm (bs.take 60) = num (bs.drop 60)
  · exact rread_rest bs w hl hb h
  · have h1 : decF bs = fr0 ∧ decE bs = 11 := by unfold decF decE soundB; simp [h]
    rw [h1.1, h1.2]; exact rread_sum bs w hl hb h

end Go.Proofs.Ytlkghdgomfcfkaa
