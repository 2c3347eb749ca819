/-
  Contracts of layer 4 (entry), third part: write and Body.
-/
import Derived.Test.YtdjnfikacjfkkaaEntryC
namespace Go.Proofs.Ytdjnfikacjfkkaa
open Go.RowKit CrcM
set_option linter.unusedVariables false
set_option linter.unnecessarySimpa false
set_option linter.unusedSimpArgs false

/-- All that an entry has, as its body has it, if it fits. -/
def eO (e : EnR) : Option (List Nat) := pBytes (pNum (pNum (pNum (pNum (pNum (some []) 6 e.f) 1 e.c) 1 e.b) 2 e.m) 2 e.t) e.y
/-- .. of a right entry. -/
def ebod (e : EnR) : List Nat := leb 6 e.f.toNat ++ leb 1 e.c.toNat ++ leb 1 e.b.toNat ++ leb 2 e.m.toNat ++ leb 2 e.t.toNat ++ e.y

theorem rB_ranges {e : EnR} (h : rB e = true) : (0 ≤ e.f ∧ e.f ≤ 281474976710655) ∧ (0 ≤ e.b ∧ e.b ≤ 255) ∧ (0 ≤ e.t ∧ e.t ≤ 65535) ∧ (1 ≤ e.c ∧ e.c ≤ 4) ∧ (0 ≤ e.m ∧ e.m ≤ 256) := by
  obtain ⟨h1, h2, h3, h4⟩ := (rB_iff e).1 h
  exact ⟨h1, h2, h3, by omega, by omega⟩

theorem eO_right {e : EnR} (h : rB e = true) : eO e = some (ebod e) := by
  obtain ⟨⟨h1, h2⟩, ⟨h3, h4⟩, ⟨h5, h6⟩, ⟨h7, h8⟩, h9, h10⟩ := rB_ranges h
  unfold eO pNum pBytes
  rw [show fitB 6 e.f = true from fit_of (k := 6) (by omega) (by omega) (by omega), show fitB 1 e.c = true from fit_of (k := 1) (by omega) (by omega) (by omega), show fitB 1 e.b = true from fit_of (k := 1) (by omega) (by omega) (by omega),
    show fitB 2 e.m = true from fit_of (k := 2) (by omega) (by omega) (by omega), show fitB 2 e.t = true from fit_of (k := 2) (by omega) (by omega) (by omega)]
  simp [ebod]
theorem ebod_length {e : EnR} (h : e.y.length = 32) : (ebod e).length = 44 := by simp [ebod, leb_length, h]
theorem ebod_lt {e : EnR} (h : ∀ c ∈ e.y, c < 256) : ∀ c ∈ ebod e, c < 256 := by
  intro c hc
  simp only [ebod, List.mem_append] at hc
  rcases hc with ((((h1 | h1) | h1) | h1) | h1) | h1
  all_goals first | exact leb_lt _ _ c h1 | exact h c h1

theorem en_row {w : World} {g : Nat} {t : TypeId} {e : EnR} (h : Blk w g t (enA e)) (hl : e.y.length = 32) (hb : ∀ c ∈ e.y, c < 256) : RowB w (some ⟨g, 6, none⟩) 32 32 e.y :=
  ⟨hl, Nat.le_refl _, by unfold maxLen; omega, hb, fun _ => ⟨g, 6, rfl, fun i hi => (h.cell (6 + i)).trans (mixA_byte (enZ e) e.y i (by omega))⟩, fun h => by cases h⟩

theorem run_slice_bl (w : World) (g : Nat) :
    (Instr.sliceAt 23 (.pointer (some ⟨g, 6, none⟩)) none none none).run Try.prog w = .ok (.slice (some ⟨g, 6, none⟩) 32 32) w := by
  obtain ⟨i0, hi, hz0, hz1, hz2⟩ := info_parts Try.infoByte
  simp [Instr.sliceAt, Instr.sureAddr, Instr.sliceBounds, Instr.sliceBound, run_underlying Try.underlying23, asIntOf, sizeOf, typeInfo, hi, Addr.add]
theorem run_slice_44z (w : World) (g : Nat) :
    (Instr.sliceAt 26 (.pointer (some ⟨g, 0, none⟩)) none none none).run Try.prog w = .ok (.slice (some ⟨g, 0, none⟩) 44 44) w := by
  obtain ⟨i0, hi, hz0, hz1, hz2⟩ := info_parts Try.infoByte
  simp [Instr.sliceAt, Instr.sureAddr, Instr.sliceBounds, Instr.sliceBound, run_underlying Try.underlying26, asIntOf, sizeOf, typeInfo, hi, Addr.add]

theorem wpl_copy_at {P : Program} {w : World} {ops : Array Oper} {rest : List Oper} {o : Oper} {a : Act} {Q : Exit → Act → World → Prop} (hgd : o.guard = none) (d s : Operand) (dT sT : TypeId) (ho : o.op = .call { callee := .builtin .copy, args := #[d, s], argTypes := #[dT, sT] }) {elem : TypeId} (hu : P.underlying dT = some (.slice elem)) (hsz : (P.info? elem).map (·.size) = some 1)
    (g off dLen dCap : Nat) (cur : List Value) (t : TypeId) (hg : Blk w g t cur.toArray) (hd : a.eval d = .slice (some ⟨g, off, none⟩) dLen dCap) (hfit : off + dLen ≤ cur.length) (sp : Option Addr) (sLen sCap : Nat) (bs : List Nat) (hs : a.eval s = .slice sp sLen sCap) (hrow : RowB w sp sLen sCap bs)
    (h : ∀ w', Blk w' g t (splice cur off (bvals (bs.take dLen))).toArray → Below g w w' → wpList P ops Q rest (a.put o.dst (goInt (min sLen dLen : Nat))) w') : wpList P ops Q (o :: rest) a w :=
  wpList_plain hgd fun _ hK => wp_copy_at hgd d s dT sT ho hu hsz g off dLen dCap cur t hg hd hfit sp sLen sCap bs hs hrow (fun w' h1 h2 => hK _ _ (h w' h1 h2))

set_option maxRecDepth 100000 in
set_option maxHeartbeats 4000000 in
theorem ewrite_any (e : EnR) (w : World) (hl : e.y.length = 32) (hb : ∀ c ∈ e.y, c < 256) :
    Calls Try.prog 21 #[.agg (enA e)] w (WritePost (eO e) w) := by
  have HL := Lib.hid hl
  have Hb := Lib.hid hb
  clear hl hb
  have hF0 : Blk ((w.alloc (Obj.cells (enA e) 25)).alloc (Obj.cells #[.slice none 0 0, .bool false] 61)) w.heap.size 25 (enA e) := Blk.alloc (Blk.new _ _ _) _
  have hP0 : PenO (w.heap.size + 1) (w.heap.size + 1) 0 (some []) ((w.alloc (Obj.cells (enA e) 25)).alloc (Obj.cells #[.slice none 0 0, .bool false] 61)) := PenO.new (by
    have h := Blk.new (w.alloc (Obj.cells (enA e) 25)) 61 #[.slice none 0 0, .bool false]
    rwa [show (w.alloc (Obj.cells (enA e) 25)).heap.size = w.heap.size + 1 by simp] at h)
  have hB0 : Below w.heap.size w ((w.alloc (Obj.cells (enA e) 25)).alloc (Obj.cells #[.slice none 0 0, .bool false] 61)) := bthen (below_alloc _ _) (below_alloc _ _)
  have hz0 : w.heap.size + 1 ≤ ((w.alloc (Obj.cells (enA e) 25)).alloc (Obj.cells #[.slice none 0 0, .bool false] 61)).heap.size := by simp
  have HF0 := Lib.hid hF0
  have HP0 := Lib.hid hP0
  have HB0 := Lib.hid hB0
  have HZ0 := Lib.hid hz0
  have c1 := (hF0.cell 1).trans (enA_at1 e)
  clear hF0 hP0 hB0 hz0
  go_enter Try.func21, Try.ntmps21
  go_wp2_with fail
  refine (penO_num _ _ 0 _ _ 6 e.f HP0.out (Nat.le_refl _) HZ0.out (by decide)).mono ?_
  rintro e' w1 ⟨rfl, hP1, hb1⟩
  have HP1 := Lib.hid hP1
  have HF1 := Lib.hid (HF0.out.below hb1 (Nat.lt_succ_self _))
  have HB1 := Lib.hid (HB0.out.trans (hb1.mono (Nat.le_succ _)))
  have HZ1 := Lib.hid (Nat.le_trans HZ0.out hb1.size)
  clear hP1 HP0 HF0 HB0 HZ0 hb1 c1
  have c2 := (HF1.out.cell 2).trans (enA_at2 e)
  go_wp2_with fail
  refine (penO_num _ _ 7 _ _ 1 e.c HP1.out (Nat.le_refl _) HZ1.out (by decide)).mono ?_
  rintro e' w2 ⟨rfl, hP2, hb2⟩
  have HP2 := Lib.hid hP2
  have HF2 := Lib.hid (HF1.out.below hb2 (Nat.lt_succ_self _))
  have HB2 := Lib.hid (HB1.out.trans (hb2.mono (Nat.le_succ _)))
  have HZ2 := Lib.hid (Nat.le_trans HZ1.out hb2.size)
  clear hP2 HP1 HF1 HB1 HZ1 hb2 c2
  have c3 := (HF2.out.cell 3).trans (enA_at3 e)
  go_wp2_with fail
  refine (penO_num _ _ 14 _ _ 1 e.b HP2.out (Nat.le_refl _) HZ2.out (by decide)).mono ?_
  rintro e' w3 ⟨rfl, hP3, hb3⟩
  have HP3 := Lib.hid hP3
  have HF3 := Lib.hid (HF2.out.below hb3 (Nat.lt_succ_self _))
  have HB3 := Lib.hid (HB2.out.trans (hb3.mono (Nat.le_succ _)))
  have HZ3 := Lib.hid (Nat.le_trans HZ2.out hb3.size)
  clear hP3 HP2 HF2 HB2 HZ2 hb3 c3
  have c4 := (HF3.out.cell 4).trans (enA_at4 e)
  go_wp2_with fail
  refine (penO_num _ _ 21 _ _ 2 e.m HP3.out (Nat.le_refl _) HZ3.out (by decide)).mono ?_
  rintro e' w4 ⟨rfl, hP4, hb4⟩
  have HP4 := Lib.hid hP4
  have HF4 := Lib.hid (HF3.out.below hb4 (Nat.lt_succ_self _))
  have HB4 := Lib.hid (HB3.out.trans (hb4.mono (Nat.le_succ _)))
  have HZ4 := Lib.hid (Nat.le_trans HZ3.out hb4.size)
  clear hP4 HP3 HF3 HB3 HZ3 hb4 c4
  have c5 := (HF4.out.cell 5).trans (enA_at5 e)
  go_wp2_with fail
  refine (penO_num _ _ 28 _ _ 2 e.t HP4.out (Nat.le_refl _) HZ4.out (by decide)).mono ?_
  rintro e' w5 ⟨rfl, hP5, hb5⟩
  have HP5 := Lib.hid hP5
  have HF5 := Lib.hid (HF4.out.below hb5 (Nat.lt_succ_self _))
  have HB5 := Lib.hid (HB4.out.trans (hb5.mono (Nat.le_succ _)))
  have HZ5 := Lib.hid (Nat.le_trans HZ4.out hb5.size)
  clear hP5 HP4 HF4 HB4 HZ4 hb5 c5
  have s1 := run_slice_bl
  go_wp2_with fail
  clear s1
  have HR : Hid (RowB w5 (some ⟨w.heap.size, 6, none⟩) 32 32 e.y) := Lib.hid (en_row HF5.out HL.out Hb.out)
  refine (penO_bytes _ _ 35 _ _ _ _ _ _ HP5.out (Nat.le_refl _) HZ5.out HR.out (by decide)).mono ?_
  rintro e' w7 ⟨rfl, hP7, hb7⟩
  have HP7 := Lib.hid hP7
  have HB7 := Lib.hid (HB5.out.trans (hb7.mono (Nat.le_succ _)))
  clear hP7 HP5 HF5 HB5 HZ5 hb7 HR
  go_wp2_with fail
  refine (penO_out _ _ 67 _ _ HP7.out (by decide)).mono ?_
  rintro e' w8 ⟨v, x, rfl, hb8, hq⟩
  have HQ := Lib.hid hq
  have HB8 := Lib.hid (bthen HB7.out hb8)
  have hz8 := HB7.out.size
  clear hq HP7 HB7 hb8
  go_wp2_with fail
  go_ret2
  refine ⟨v, x, rfl, HB8.out, fun qs hq => ?_⟩
  obtain ⟨h1, g, h2, h3, h4⟩ := HQ.out qs hq
  exact ⟨h1, g, h2, Nat.le_trans hz8 h3, h4⟩

/-- A body, and an error or none. -/
def BodP (bs : List Nat) (x : Int) (w : World) (en : Ending) (w' : World) : Prop := en = .returned (.tuple #[.agg (bA bs), .int .i64 x]) ∧ Below w.heap.size w w'

set_option maxRecDepth 100000 in
set_option maxHeartbeats 4000000 in
theorem body_bad (e : EnR) (w : World) (hl : e.y.length = 32) (hb : ∀ c ∈ e.y, c < 256) (hr : rB e = false) :
    Calls Try.prog 10 #[.agg (enA e)] w (BodP (zeros 44) 10 w) := by
  have HL := Lib.hid hl
  have Hb := Lib.hid hb
  have Hr := Lib.hid hr
  clear hl hb hr
  have hz := zero_44
  have HF0 : Hid (Blk ((w.alloc (Obj.cells (enA e) 25)).alloc (Obj.cells (bA (zeros 44)) 26)) w.heap.size 25 (enA e)) := Lib.hid (Blk.alloc (Blk.new _ _ _) _)
  have HS0 : Hid (Blk ((w.alloc (Obj.cells (enA e) 25)).alloc (Obj.cells (bA (zeros 44)) 26)) (w.heap.size + 1) 26 (bA (zeros 44))) := Lib.hid (by
    have h := Blk.new (w.alloc (Obj.cells (enA e) 25)) 26 (bA (zeros 44))
    rwa [show (w.alloc (Obj.cells (enA e) 25)).heap.size = w.heap.size + 1 by simp] at h)
  have HB0 : Hid (Below w.heap.size w ((w.alloc (Obj.cells (enA e) 25)).alloc (Obj.cells (bA (zeros 44)) 26))) := Lib.hid (bthen (below_alloc _ _) (below_alloc _ _))
  go_enter Try.func10, Try.ntmps10
  go_wp2_with (refine wpl_load rfl _ rfl (w.heap.size) rfl _ _ _ HF0.out Try.underlying25 rfl (info_enA HL.out) ?_; go_frame)
  refine (ewrite_any e _ HL.out Hb.out).mono ?_
  rintro en w1 ⟨v, x, rfl, hb1, hq⟩
  have HB1 := Lib.hid (bthen HB0.out hb1)
  have HF1 := Lib.hid (HF0.out.below hb1 HF0.out.lt)
  have HS1 := Lib.hid (HS0.out.below hb1 HS0.out.lt)
  clear hq hz HB0 HF0 HS0 hb1
  by_cases hx : x = 0
  · subst hx
    go_wp2_with (refine wpl_load_g (by kernel_rfl) _ rfl (w.heap.size) rfl _ _ _ HF1.out Try.underlying25 rfl (info_enA HL.out) ?_; go_frame)
    refine (eright_any e _ HL.out).mono ?_
    rintro en w2 ⟨rfl, hb2⟩
    rw [Hr.out]
    have HB2 := Lib.hid (bthen HB1.out hb2)
    have HS2 := Lib.hid (HS1.out.below hb2 HS1.out.lt)
    clear HB1 HF1 HS1 hb2
    go_wp2_with (first | (refine wpl_build (by kernel_rfl) 26 _ rfl (.agg (bA (zeros 44))) (fun _ => by kernel_rfl) ?_; go_frame) | (refine wpl_store rfl _ _ rfl (w.heap.size + 1) (bA (zeros 44)) rfl rfl _ _ HS2.out (info_44 (zeros_length 44)) (by simp [bA_size, zeros_length]) (bA_one _) ?_; intro w3 hS3 hK3; have HS3 := Lib.hid hS3; have HK3 := Lib.hid hK3; clear hS3 hK3; go_frame))
    exact bodyPost_ret (v := .tuple #[.agg (bA (zeros 44)), .int .i64 10]) (results_cell_slot Try.results10 _ _ (w.heap.size + 1) _ _ _ _ rfl rfl HS3.out Try.underlying26 rfl (info_44 (zeros_length 44))) rfl ⟨rfl, bkept HB2.out (Nat.le_refl _) HK3.out (fun i hi h => by omega)⟩
  · have hx0 : (x != 0) = true := by rw [bne_iff_ne]; exact hx
    clear hx
    go_wp2_with (first | (refine wpl_build (by kernel_rfl) 26 _ rfl (.agg (bA (zeros 44))) (fun _ => by kernel_rfl) ?_; go_frame) | (refine wpl_store rfl _ _ rfl (w.heap.size + 1) (bA (zeros 44)) rfl rfl _ _ HS1.out (info_44 (zeros_length 44)) (by simp [bA_size, zeros_length]) (bA_one _) ?_; intro w3 hS3 hK3; have HS3 := Lib.hid hS3; have HK3 := Lib.hid hK3; clear hS3 hK3; go_frame))
    exact bodyPost_ret (v := .tuple #[.agg (bA (zeros 44)), .int .i64 10]) (results_cell_slot Try.results10 _ _ (w.heap.size + 1) _ _ _ _ rfl rfl HS3.out Try.underlying26 rfl (info_44 (zeros_length 44))) rfl ⟨rfl, bkept HB1.out (Nat.le_refl _) HK3.out (fun i hi h => by omega)⟩

set_option maxRecDepth 100000 in
set_option maxHeartbeats 4000000 in
theorem body_ok (e : EnR) (w : World) (hl : e.y.length = 32) (hb : ∀ c ∈ e.y, c < 256) (hr : rB e = true) :
    Calls Try.prog 10 #[.agg (enA e)] w (BodP (ebod e) 0 w) := by
  have HL := Lib.hid hl
  have Hb := Lib.hid hb
  have Hr := Lib.hid hr
  clear hl hb hr
  have hz := zero_44
  have HF0 : Hid (Blk ((w.alloc (Obj.cells (enA e) 25)).alloc (Obj.cells (bA (zeros 44)) 26)) w.heap.size 25 (enA e)) := Lib.hid (Blk.alloc (Blk.new _ _ _) _)
  have HS0 : Hid (Blk ((w.alloc (Obj.cells (enA e) 25)).alloc (Obj.cells (bA (zeros 44)) 26)) (w.heap.size + 1) 26 (bA (zeros 44))) := Lib.hid (by
    have h := Blk.new (w.alloc (Obj.cells (enA e) 25)) 26 (bA (zeros 44))
    rwa [show (w.alloc (Obj.cells (enA e) 25)).heap.size = w.heap.size + 1 by simp] at h)
  have HB0 : Hid (Below w.heap.size w ((w.alloc (Obj.cells (enA e) 25)).alloc (Obj.cells (bA (zeros 44)) 26))) := Lib.hid (bthen (below_alloc _ _) (below_alloc _ _))
  go_enter Try.func10, Try.ntmps10
  go_wp2_with (refine wpl_load rfl _ rfl (w.heap.size) rfl _ _ _ HF0.out Try.underlying25 rfl (info_enA HL.out) ?_; go_frame)
  refine (ewrite_any e _ HL.out Hb.out).mono ?_
  rintro en w1 ⟨v, x, rfl, hb1, hq⟩
  have HB1 := Lib.hid (bthen HB0.out hb1)
  have HF1 := Lib.hid (HF0.out.below hb1 HF0.out.lt)
  have HS1 := Lib.hid (HS0.out.below hb1 HS0.out.lt)
  obtain ⟨rfl, g, rfl, hg1, hA1⟩ := hq (ebod e) (eO_right Hr.out)
  have HA := Lib.hid (row_of_blk hA1 (ebod_lt Hb.out) 44 (ebod_length HL.out) (by decide))
  rw [ebod_length HL.out]
  clear hq HB0 HF0 HS0 hb1 hg1 hA1
  go_wp2_with (refine wpl_load_g (by kernel_rfl) _ rfl (w.heap.size) rfl _ _ _ HF1.out Try.underlying25 rfl (info_enA HL.out) ?_; go_frame)
  refine (eright_any e _ HL.out).mono ?_
  rintro en w2 ⟨rfl, hb2⟩
  rw [Hr.out]
  have HB2 : Hid (Below w.heap.size w (w2.alloc (Obj.cells (bA (zeros 44)) 26))) := Lib.hid (bthen (bthen HB1.out hb2) (below_alloc _ _))
  have HS2 : Hid (Blk (w2.alloc (Obj.cells (bA (zeros 44)) 26)) (w.heap.size + 1) 26 (bA (zeros 44))) := Lib.hid ((HS1.out.below hb2 HS1.out.lt).alloc _)
  have HN2 : Hid (Blk (w2.alloc (Obj.cells (bA (zeros 44)) 26)) w2.heap.size 26 (bvals (zeros 44)).toArray) := Lib.hid (Blk.new _ _ _)
  have HA2 : Hid (RowB (w2.alloc (Obj.cells (bA (zeros 44)) 26)) (some ⟨g, 0, none⟩) 44 44 (ebod e)) := Lib.hid ((HA.out.below hb2).below (below_alloc _ _))
  have HLt : Hid (w.heap.size + 1 < w2.heap.size) := Lib.hid (HS1.out.below hb2 HS1.out.lt).lt
  clear HB1 HF1 HS1 HA hb2
  have s1 := run_slice_44z
  go_wp2_with (first | (refine wpl_copy_at rfl (.tmp 20) (.tmp 21) _ _ rfl Try.underlying51 infoByteSize w2.heap.size 0 44 44 _ _ HN2.out rfl (by simp [bvals_length, zeros_length]) _ _ _ (ebod e) rfl HA2.out ?_; intro w5 hN5 hb5; rw [splice_full (ebod_length HL.out) (by rw [zeros_length])] at hN5; have HN5 := Lib.hid hN5; have HB5 := Lib.hid (HB2.out.trans (hb5.mono (by have := HLt.out; omega))); have HS5 := Lib.hid (HS2.out.below hb5 HLt.out); clear hN5 hb5 HB2 HS2 HN2 HA2; go_frame) | (refine wpl_load rfl _ rfl (w2.heap.size) rfl _ _ _ HN5.out Try.underlying26 rfl (info_44 (ebod_length HL.out)) ?_; go_frame) | (refine wpl_store rfl _ _ rfl (w.heap.size + 1) (bA (ebod e)) rfl rfl _ _ HS5.out (info_44 (ebod_length HL.out)) (by rw [bA_size, bA_size, zeros_length, ebod_length HL.out]) (bA_one _) ?_; intro w6 hS6 hK6; have HS6 := Lib.hid hS6; have HK6 := Lib.hid hK6; clear hS6 hK6; go_frame))
  exact bodyPost_ret (v := .tuple #[.agg (bA (ebod e)), .int .i64 0]) (results_cell_slot Try.results10 _ _ (w.heap.size + 1) _ _ _ _ rfl rfl HS6.out Try.underlying26 rfl (info_44 (ebod_length HL.out))) rfl ⟨rfl, bkept HB5.out (Nat.le_refl _) HK6.out (fun i hi h => by omega)⟩

/-- What Body tells. -/
def bodV (e : EnR) : List Nat := if rB e = true then ebod e else zeros 44
def bodE (e : EnR) : Int := if rB e = true then 0 else 10
theorem bodV_length {e : EnR} (h : e.y.length = 32) : (bodV e).length = 44 := by
  unfold bodV; split
  · exact ebod_length h
  · exact zeros_length 44
theorem bodV_lt {e : EnR} (h : ∀ c ∈ e.y, c < 256) : ∀ c ∈ bodV e, c < 256 := by
  unfold bodV; split
  · exact ebod_lt h
  · exact zeros_lt 44
theorem bodV_ok {e : EnR} (h : rB e = true) : bodV e = ebod e := if_pos h
theorem bodE_ok {e : EnR} (h : rB e = true) : bodE e = 0 := if_pos h
theorem bodV_bad {e : EnR} (h : rB e = false) : bodV e = zeros 44 := if_neg (by rw [h]; decide)
theorem bodE_bad {e : EnR} (h : rB e = false) : bodE e = 10 := if_neg (by rw [h]; decide)
theorem body_any (e : EnR) (w : World) (hl : e.y.length = 32) (hb : ∀ c ∈ e.y, c < 256) : Calls Try.prog 10 #[.agg (enA e)] w (BodP (bodV e) (bodE e) w) := by
  cases hr : rB e with
  | true => rw [bodV_ok hr, bodE_ok hr]; exact body_ok e w hl hb hr
  | false => rw [bodV_bad hr, bodE_bad hr]; exact body_bad e w hl hb hr

end Go.Proofs.Ytdjnfikacjfkkaa
