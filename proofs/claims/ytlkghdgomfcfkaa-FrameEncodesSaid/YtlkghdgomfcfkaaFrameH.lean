/-
  Layer 3 (frame), seventh part: the document's Bytes.
-/
import Derived.Test.YtlkghdgomfcfkaaFrameG
namespace Go.Proofs.Ytlkghdgomfcfkaa
open Go.RowKit CrcM
set_option linter.unusedVariables false
set_option linter.unnecessarySimpa false
set_option linter.unusedSimpArgs false

theorem rnumI (WD X : Int) (k x : Nat) (hWD : WD = k) (hX : X = x) (w : World) (hk : k ≤ 1000000) (hx : x < 9223372036854775808) :
    Calls Try.prog 27 #[.int .i64 WD, .int .i64 X] w (RNumPost (leb k x) w) := by
  subst hWD hX; exact rnum_any k x w hk hx

theorem zero_64 (w : World) : (zeroValue 31).run Try.prog w = .ok (.agg (bA (zeros 64))) w := by kernel_rfl

/-- A row of its own on its way, over a world wb. -/
structure OwnAt (wb w : World) (v : Value) (bs : List Nat) : Prop where
  own : w.ownsRow wb.heap.size 5 1 v bs.length (bvals bs)
  bel : Below wb.heap.size wb w
  lt : ∀ c ∈ bs, c < 256

theorem OwnAt.made {wb : World} {bs : List Nat} (hb : ∀ c ∈ bs, c < 256) (hm : bs.length ≤ 1000000) : OwnAt wb (wb.alloc (Obj.cells (bA bs) 5)) (.slice (some ⟨wb.heap.size, 0, none⟩) bs.length bs.length) bs := by
  refine ⟨⟨by rw [bvals_length, Nat.mul_one], .inr ⟨wb.heap.size, bs.length, bA bs, rfl, Nat.le_refl _, heap_alloc_new wb _, Nat.le_refl _, by unfold maxLen; omega, by rw [bA_size, Nat.mul_one], ?_⟩⟩, below_alloc _ _, hb⟩
  rw [Nat.mul_one, List.take_of_length_le (by simp [bA, bvals_length])]
  rfl
theorem OwnAt.below {wb w w' : World} {v : Value} {bs : List Nat} (h : OwnAt wb w v bs) (hb : Below w.heap.size w w') : OwnAt wb w' v bs :=
  ⟨own_kept h.own (Kept.of_below (S := fun _ => False) hb) (fun _ _ h => h), h.bel.trans (hb.mono h.bel.size), h.lt⟩
theorem OwnAt.more {wb w w' : World} {v v' : Value} {bs ds : List Nat} (h : OwnAt wb w v bs) (hd : ∀ c ∈ ds, c < 256) (ho : w'.ownsRow wb.heap.size 5 1 v' (bs.length + ds.length) (bvals (bs ++ ds))) (hg : w.grownBy w' v.ownBlock) : OwnAt wb w' v' (bs ++ ds) := by
  refine ⟨by rw [List.length_append]; exact ho, h.bel.grown hg h.bel.size (fun g e => (h.own.lt g e).1), fun c hc => ?_⟩
  rcases List.mem_append.1 hc with h1 | h1
  · exact h.lt c h1
  · exact hd c h1

/-- One append to it. -/
theorem wpl_more {w : World} {ops : Array Oper} {rest : List Oper} {o : Oper} {a : Act} {Q : Exit → Act → World → Prop} (hgd : o.guard = none) (s x : Operand)
    (ho : o.op = .call { callee := .builtin .append, args := #[s, x], argTypes := #[47, 47] }) (wb : World) (v : Value) (bs : List Nat) (hs : a.eval s = v) (hown : OwnAt wb w v bs)
    (sp : Option Addr) (m c : Nat) (ds : List Nat) (hx : a.eval x = .slice sp m c) (hrow : RowB w sp m c ds) (h63 : bs.length + m ≤ 1000000)
    (h : ∀ v' w', OwnAt wb w' v' (bs ++ ds) → wpList Try.prog ops Q rest (a.put o.dst v') w') : wpList Try.prog ops Q (o :: rest) a w := by
  have hl := hrow.length
  subst hl
  exact wpList_append_bytes hgd s x ho wb.heap.size v bs.length bs hs hown.own sp ds.length c ds hx hrow (by omega) hown.bel.size (fun v' w' h1 h2 => h v' w' (hown.more hrow.lt h1 h2))

theorem row_fill (R : List Nat) (j : Nat) (hj : j < 64) (h : R.length = 64) : (R.take j ++ zeros (64 - j)).set j (R.getD j 0) = R.take (j + 1) ++ zeros (64 - (j + 1)) := by
  have hl : (R.take j).length = j := by rw [List.length_take, h]; omega
  rw [List.set_append_right _ _ (by omega), hl, Nat.sub_self, take_snoc_nat R j (by omega), List.append_assoc]
  congr 1
  have e : zeros (64 - j) = 0 :: zeros (64 - (j + 1)) := by
    unfold zeros; rw [show 64 - j = (64 - (j + 1)) + 1 by omega, List.replicate_succ]
  rw [e, List.set_cons_zero]
  rfl

set_option maxRecDepth 100000 in
set_option maxHeartbeats 4000000 in
theorem rbytes_nat (k z o e s : Nat) (b : List Nat) (w : World) (hl : b.length = 44) (hb : ∀ c ∈ b, c < 256) (hk : k < 256) (hz : z < 65536) (ho : o < 65536) (he : e < 4294967296) (hs : s < 281474976710656) :
    Calls Try.prog 16 #[.agg (frA ⟨(k : Nat), (z : Nat), (o : Nat), (e : Nat), (s : Nat), b⟩)] w fun en w' => en = .returned (.agg (bA (sec ⟨(k : Nat), (z : Nat), (o : Nat), (e : Nat), (s : Nat), b⟩))) ∧ Below w.heap.size w w' := by
  generalize hf : (⟨(k : Nat), (z : Nat), (o : Nat), (e : Nat), (s : Nat), b⟩ : FrR) = f
  have hk0 : f.k = (k : Nat) := by rw [← hf]
  have hz0 : f.z = (z : Nat) := by rw [← hf]
  have ho0 : f.o = (o : Nat) := by rw [← hf]
  have he0 : f.e = (e : Nat) := by rw [← hf]
  have hs0 : f.s = (s : Nat) := by rw [← hf]
  have hb0 : f.b = b := by rw [← hf]
  have hsec : sec f = (leb 1 k ++ leb 1 1 ++ leb 2 z ++ leb 2 o ++ leb 4 e ++ leb 6 s ++ b) ++ leb 4 (sm (leb 1 k ++ leb 1 1 ++ leb 2 z ++ leb 2 o ++ leb 4 e ++ leb 6 s ++ b)) := by
    unfold sec sealed ahead; rw [hk0, hz0, ho0, he0, hs0, hb0]; simp only [Int.toNat_natCast]
  have hk8 : (k : Int) % 256 = (k : Int) := by omega
  have hlk : leb 1 k = [k] := by simp [leb]; omega
  have hl1 : leb 1 1 = [1] := by decide
  have h1 : OwnAt ((w.alloc (Obj.cells (frA f) 30)).alloc (Obj.cells (bA (zeros 64)) 31)) (((w.alloc (Obj.cells (frA f) 30)).alloc (Obj.cells (bA (zeros 64)) 31)).alloc (Obj.cells (bA [k, 1]) 5)) (.slice (some ⟨((w.alloc (Obj.cells (frA f) 30)).alloc (Obj.cells (bA (zeros 64)) 31)).heap.size, 0, none⟩) 2 2) [k, 1] := OwnAt.made (by simp; omega) (by simp)
  have hX : Blk ((w.alloc (Obj.cells (frA f) 30)).alloc (Obj.cells (bA (zeros 64)) 31)) w.heap.size 30 (frA f) := Blk.alloc (Blk.new _ _ _) _
  have hO : Blk ((w.alloc (Obj.cells (frA f) 30)).alloc (Obj.cells (bA (zeros 64)) 31)) (w.heap.size + 1) 31 (bA (zeros 64)) := by
    have h := Blk.new (w.alloc (Obj.cells (frA f) 30)) 31 (bA (zeros 64))
    rwa [show (w.alloc (Obj.cells (frA f) 30)).heap.size = w.heap.size + 1 by simp] at h
  have hB : Below w.heap.size w ((w.alloc (Obj.cells (frA f) 30)).alloc (Obj.cells (bA (zeros 64)) 31)) := bthen (below_alloc _ _) (below_alloc _ _)
  have hsz : ((w.alloc (Obj.cells (frA f) 30)).alloc (Obj.cells (bA (zeros 64)) 31)).heap.size = w.heap.size + 2 := by simp
  have hcell : ∀ i v, (frA f)[i]? = some v → ∀ w', Below ((w.alloc (Obj.cells (frA f) 30)).alloc (Obj.cells (bA (zeros 64)) 31)).heap.size ((w.alloc (Obj.cells (frA f) 30)).alloc (Obj.cells (bA (zeros 64)) 31)) w' → w'.cell? ⟨w.heap.size, i, none⟩ = some v := fun i v hv w' hw => ((hX.below hw hX.lt).cell i).trans hv
  have c0 : ((w.alloc (Obj.cells (frA f) 30)).alloc (Obj.cells (bA (zeros 64)) 31)).cell? ⟨w.heap.size, 0, none⟩ = some (.int .i64 (k : Nat)) := by rw [← hk0]; exact (hX.cell 0).trans (frA_at0 f)
  have c1 : (((w.alloc (Obj.cells (frA f) 30)).alloc (Obj.cells (bA (zeros 64)) 31)).alloc (Obj.cells #[.int .u8 (k : Nat), .int .u8 1] 5)).cell? ⟨w.heap.size, 1, none⟩ = some (.int .i64 (z : Nat)) := by rw [← hz0]; exact hcell 1 _ (frA_at1 f) _ (below_alloc _ _)
  rw [show (.slice (some ⟨((w.alloc (Obj.cells (frA f) 30)).alloc (Obj.cells (bA (zeros 64)) 31)).heap.size, 0, none⟩) 2 2 : Value) = .slice (some ⟨w.heap.size + 1 + 1, 0, none⟩) 2 2 by rw [hsz]] at h1
  have H1 : Hid (OwnAt ((w.alloc (Obj.cells (frA f) 30)).alloc (Obj.cells (bA (zeros 64)) 31)) (((w.alloc (Obj.cells (frA f) 30)).alloc (Obj.cells (bA (zeros 64)) 31)).alloc (Obj.cells #[.int .u8 (k : Nat), .int .u8 1] 5)) (.slice (some ⟨w.heap.size + 1 + 1, 0, none⟩) 2 2) [k, 1]) := Lib.hid h1
  have Hcell := Lib.hid hcell
  have HO := Lib.hid hO
  have HB := Lib.hid hB
  have Hsec := Lib.hid hsec
  have HL := Lib.hid hl
  have Hb := Lib.hid hb
  have Hlk := Lib.hid hlk
  have Hl1 := Lib.hid hl1
  have Hsz := Lib.hid hsz
  have Ho0 := Lib.hid ho0
  have He0 := Lib.hid he0
  have Hs0 := Lib.hid hs0
  have Hb0 := Lib.hid hb0
  have hz64 := zero_64
  clear hcell h1 hX hO hB hsec hl hb hlk hl1 hsz hk0 hz0 ho0 he0 hs0 hb0 hf
  go_enter Try.func16, Try.ntmps16
  go_wp2_with fail
  clear c0 c1 hk8
  generalize (((w.alloc (Obj.cells (frA f) 30)).alloc (Obj.cells (bA (zeros 64)) 31)).alloc (Obj.cells #[.int .u8 (k : Nat), .int .u8 1] 5)) = u0 at *
  generalize ((w.alloc (Obj.cells (frA f) 30)).alloc (Obj.cells (bA (zeros 64)) 31)) = wb at *
  refine (rnumI 2 _ 2 z rfl rfl u0 (by decide) (by omega)).mono ?_
  rintro en w0a ⟨a0, cp0, rfl, hr, _, hb⟩
  rw [leb_length] at hr
  rw [leb_length]
  have HA0 := Lib.hid (H1.out.below hb)
  have HR0 := Lib.hid hr
  clear hr hb H1
  go_wp2_with (refine wpl_more rfl (.tmp 11) (.tmp 14) rfl wb _ _ rfl HA0.out a0 2 cp0 (leb 2 z) rfl HR0.out (by simp [leb_length]) ?_; intro v1 u1 hown; have c1 := Hcell.out 2 _ (frA_at2 f) u1 hown.bel; rw [Ho0.out] at c1; have HW1 := Lib.hid hown; clear hown HA0 HR0; go_frame)
  clear c1
  refine (rnumI 2 _ 2 o rfl rfl u1 (by decide) (by omega)).mono ?_
  rintro en w1a ⟨a1, cp1, rfl, hr, _, hb⟩
  rw [leb_length] at hr
  rw [leb_length]
  have HA1 := Lib.hid (HW1.out.below hb)
  have HR1 := Lib.hid hr
  clear hr hb HW1
  go_wp2_with (refine wpl_more rfl (.tmp 16) (.tmp 19) rfl wb _ _ rfl HA1.out a1 2 cp1 (leb 2 o) rfl HR1.out (by simp [leb_length]) ?_; intro v2 u2 hown; have c1 := Hcell.out 3 _ (frA_at3 f) u2 hown.bel; rw [He0.out] at c1; have HW2 := Lib.hid hown; clear hown HA1 HR1; go_frame)
  clear c1
  refine (rnumI 4 _ 4 e rfl rfl u2 (by decide) (by omega)).mono ?_
  rintro en w2a ⟨a2, cp2, rfl, hr, _, hb⟩
  rw [leb_length] at hr
  rw [leb_length]
  have HA2 := Lib.hid (HW2.out.below hb)
  have HR2 := Lib.hid hr
  clear hr hb HW2
  go_wp2_with (refine wpl_more rfl (.tmp 21) (.tmp 24) rfl wb _ _ rfl HA2.out a2 4 cp2 (leb 4 e) rfl HR2.out (by simp [leb_length]) ?_; intro v3 u3 hown; have c1 := Hcell.out 4 _ (frA_at4 f) u3 hown.bel; rw [Hs0.out] at c1; have HW3 := Lib.hid hown; clear hown HA2 HR2; go_frame)
  clear c1
  refine (rnumI 6 _ 6 s rfl rfl u3 (by decide) (by omega)).mono ?_
  rintro en w3a ⟨a3, cp3, rfl, hr, _, hb⟩
  rw [leb_length] at hr
  rw [leb_length]
  have HA3 := Lib.hid (HW3.out.below hb)
  have HR3 := Lib.hid hr
  clear hr hb HW3
  go_wp2_with (refine wpl_more rfl (.tmp 26) (.tmp 29) rfl wb _ _ rfl HA3.out a3 6 cp3 (leb 6 s) rfl HR3.out (by simp [leb_length]) ?_; intro v4 u4 hown; have HW4 := Lib.hid hown; clear hown HA3 HR3; go_frame)
  have hp : ([k, 1] ++ leb 2 z ++ leb 2 o ++ leb 4 e ++ leb 6 s).length = 16 := by simp [leb_length]
  have hpl : ∀ c ∈ ([k, 1] ++ leb 2 z ++ leb 2 o ++ leb 4 e ++ leb 6 s), c < 256 := HW4.out.lt
  generalize hP : [k, 1] ++ leb 2 z ++ leb 2 o ++ leb 4 e ++ leb 6 s = P0 at *
  have HP := Lib.hid hp
  have HPe := Lib.hid hP
  clear hp hpl hP
  go_loopw [3, 4] (fun v i wr => ∃ j : Nat, j ≤ 44 ∧ i = .int .i64 j ∧ OwnAt wb wr v (P0 ++ b.take j)) (fun _ i _ => 44 - (intOf i).toNat)
  case atStart => exact ⟨0, Nat.zero_le _, rfl, by rw [List.take_zero, List.append_nil]; exact HW4.out⟩
  case round =>
    obtain ⟨j, hj, rfl, hw⟩ := hrel
    have Hw := Lib.hid hw
    clear hw
    by_cases hlt : j < 44
    · have cb := Hcell.out (5 + j) _ (frA_body f j (by rw [Hb0.out, HL.out]; exact hlt)) wr Hw.out.bel
      rw [Hb0.out] at cb
      have hc := getD_lt Hb.out j
      have Hts := Lib.hid (take_snoc_nat b j (by rw [HL.out]; exact hlt))
      generalize b.getD j 0 = c at *
      have HA := Lib.hid (Hw.out.below (below_alloc wr (Obj.cells #[.int .u8 (c : Nat)] 5)))
      have HR := Lib.hid (row_one (wr.alloc (Obj.cells #[.int .u8 (c : Nat)] 5)) wr.heap.size c _ hc (heap_alloc_new wr _))
      have HJ : Hid ((P0 ++ b.take j).length = 16 + j) := Lib.hid (by rw [List.length_append, HP.out, List.length_take, HL.out, Nat.min_eq_left (by omega)])
      go_wp2_with (refine wpl_more rfl (.tmp 35) (.tmp 40) rfl wb _ _ rfl HA.out _ 1 1 [c] rfl HR.out (by rw [HJ.out]; omega) ?_; intro v1 u1 hown; have HW := Lib.hid hown; clear hown HA HR; go_frame)
      go_roundw
      case rel => exact ⟨j + 1, by omega, by go_num, by rw [Hts.out, ← List.append_assoc]; exact HW.out⟩
      case measure => simp [intOf]; omega
    · obtain rfl : j = 44 := by omega
      rw [List.take_of_length_le (by rw [HL.out]; decide)] at Hw
      have hL60 : (P0 ++ b).length = 60 := by rw [List.length_append, HP.out, HL.out]
      generalize hA : P0 ++ b = A0 at *
      have HAe := Lib.hid hA
      have HL60 := Lib.hid hL60
      clear hA hL60
      obtain ⟨ar, cr, rfl, hrow⟩ := own_row Hw.out.own Hw.out.lt
      have hw60 := Hw.out
      rw [HL60.out] at hrow hw60
      rw [HL60.out]
      have Hw := Lib.hid hw60
      clear hw60
      have HRow := Lib.hid hrow
      have Hlt := Lib.hid Hw.out.lt
      clear hrow
      go_wp2_with fail
      refine (rsum_any _ _ _ A0 _ HRow.out).mono ?_
      rintro en wx ⟨rfl, rfl⟩
      have hsm := sm_lt Hlt.out
      generalize hS : sm A0 = S0 at *
      have HSe := Lib.hid hS
      clear hS
      go_wp2_with fail
      refine (rnumI 4 _ 4 S0 rfl rfl _ (by decide) (by omega)).mono ?_
      rintro en w5 ⟨a5, cp5, rfl, hr, _, hb⟩
      rw [leb_length] at hr
      rw [leb_length]
      have HA5 := Lib.hid (Hw.out.below hb)
      have HR5 := Lib.hid hr
      clear hr hb Hw HRow
      go_wp2_with (refine wpl_more rfl (.tmp 42) (.tmp 46) rfl wb _ _ rfl HA5.out a5 4 cp5 (leb 4 S0) rfl HR5.out (by rw [HL60.out]; decide) ?_; intro v6 u6 hown; have HW6 := Lib.hid hown; clear hown HA5 HR5; go_frame)
      have hL64 : (A0 ++ leb 4 S0).length = 64 := by rw [List.length_append, HL60.out, leb_length]
      have HL64 := Lib.hid hL64
      have HSec : Hid (sec f = A0 ++ leb 4 S0) := Lib.hid (by rw [Hsec.out, ← HAe.out, ← HSe.out, ← HAe.out, ← HPe.out, Hlk.out, Hl1.out]; simp)
      generalize A0 ++ leb 4 S0 = R0 at *
      obtain ⟨gr, cr2, rfl, hgr, hrow6, _⟩ := own_some HW6.out.own HW6.out.lt (by rw [HL64.out]; decide)
      rw [HL64.out] at hrow6
      rw [HL64.out]
      have hcr : 64 ≤ cr2 := hrow6.le
      have hcm : cr2 ≤ 9223372036854775807 := by have := hrow6.max; unfold maxLen at this; omega
      have HRow6 := Lib.hid hrow6
      have HO6 := Lib.hid (HO.out.below HW6.out.bel (by rw [Hsz.out]; omega))
      have HB6 := Lib.hid (bthen HB.out HW6.out.bel)
      have HRb := Lib.hid HW6.out.lt
      have Hs6 : Hid (w.heap.size + 2 ≤ u6.heap.size) := Lib.hid (by have := HW6.out.bel.size; have := Hsz.out; omega)
      clear hgr hrow6 hL64 HW6
      have H7R : Hid (RowB (u6.alloc (Obj.cells (bA (zeros 64)) 31)) (some ⟨gr, 0, none⟩) 64 cr2 R0) := Lib.hid (HRow6.out.below (below_alloc _ _))
      have H7O := Lib.hid (HO6.out.alloc (Obj.cells (bA (zeros 64)) 31))
      have H7B := Lib.hid (bthen HB6.out (below_alloc u6 (Obj.cells (bA (zeros 64)) 31)))
      have H7N : Hid (Blk (u6.alloc (Obj.cells (bA (zeros 64)) 31)) u6.heap.size 31 (bA (zeros 64))) := Lib.hid (Blk.new _ _ _)
      have HgN : Hid (gr ≠ u6.heap.size) := Lib.hid (by have := HRow6.out.block (by decide); obtain ⟨ad, had, hl⟩ := this; cases had; exact Nat.ne_of_lt hl)
      clear HRow6 HO6 HB6
      go_wp2_with fail
      clear hz64
      generalize u6.alloc (Obj.cells (bA (zeros 64)) 31) = u7 at *
      go_loopw [6] (fun i wr => ∃ j : Nat, j ≤ 64 ∧ i = .int .i64 j ∧ Blk wr u6.heap.size 31 (bA (R0.take j ++ zeros (64 - j))) ∧ Kept (· = u6.heap.size) u7 wr) (fun i _ => 64 - (intOf i).toNat)
      case atStart => exact ⟨0, Nat.zero_le _, rfl, by rw [List.take_zero, List.nil_append]; exact H7N.out, Kept.refl _ _⟩
      case round =>
        obtain ⟨j, hj, rfl, hg, hkp⟩ := hrel
        have Hg := Lib.hid hg
        have Hk := Lib.hid hkp
        clear hg hkp
        by_cases hlt : j < 64
        · have cr := (H7R.out.kept Hk.out (fun _ ad had e => HgN.out (by cases had; exact e))).at0 j hlt
          have hset := row_fill R0 j hlt HL64.out
          have hgs := Hg.out.set j (.int .u8 (R0.getD j 0 : Nat))
          rw [bA_set, hset] at hgs
          have Hgs := Lib.hid hgs
          have fx := Hg.out.frozen j
          have cx := (Hg.out.cell j).trans (bA_at _ j (by simp [zeros_length, HL64.out]; omega))
          generalize R0.getD j 0 = c at *
          generalize (R0.take j ++ zeros (64 - j)).getD j 0 = y at *
          clear hgs hset
          go_wp2_with fail
          go_roundw
          case rel => exact ⟨j + 1, by omega, by go_num, Hgs.out, Hk.out.setCell rfl _⟩
          case measure => simp [intOf]; omega
        · obtain rfl : j = 64 := by omega
          have Hg2 : Hid (Blk wr u6.heap.size 31 (bA R0)) := Lib.hid (by have := Hg.out; rw [List.take_of_length_le (by rw [HL64.out]; decide)] at this; simpa [zeros] using this)
          have HO2 := Lib.hid (H7O.out.kept Hk.out (by have := Hs6.out; omega))
          have HB2 := Lib.hid (bkept H7B.out (Nat.le_refl _) Hk.out (fun i hi h => by have := Hs6.out; omega))
          clear Hg Hk
          go_wp2_with (first | (refine wpl_load rfl _ rfl (u6.heap.size) rfl _ _ _ Hg2.out Try.underlying31 rfl (info_64 HL64.out) ?_; go_frame) | (refine wpl_store rfl _ _ rfl (w.heap.size + 1) (bA R0) rfl rfl _ _ HO2.out (info_64 HL64.out) (by rw [bA_size, bA_size, zeros_length, HL64.out]) (bA_one _) ?_; intro w9 hS9 hK9; have HS9 := Lib.hid hS9; have HK9 := Lib.hid hK9; clear hS9 hK9; go_frame))
          exact bodyPost_ret (v := .agg (bA R0)) (results_cell_row Try.results16 _ _ (w.heap.size + 1) _ _ (0, 0) _ rfl HS9.out Try.underlying31 rfl (info_64 HL64.out)) rfl ⟨by rw [HSec.out], bkept HB2.out (Nat.le_refl _) HK9.out (fun i hi h => by omega)⟩

end Go.Proofs.Ytlkghdgomfcfkaa
