/-
  Contracts of layer 2 (codec), second part: pens.
-/
import Derived.Test.YtdjnfikacjfkkaaCodecA
namespace Go.Proofs.Ytdjnfikacjfkkaa
open Go.RowKit CrcM
set_option linter.unusedVariables false
set_option linter.unnecessarySimpa false
set_option linter.unusedSimpArgs false

/-- What own tells: a row of its own. -/
def OwnPost (n : Nat) (bs : List Nat) (w : World) (e : Ending) (w' : World) : Prop :=
  ∃ g, e = .returned (.slice (some ⟨g, 0, none⟩) n n) ∧ w.heap.size ≤ g ∧ Blk w' g 5 (bA bs) ∧ Below w.heap.size w w'

theorem own_start (bs : List Nat) (n : Nat) (h : bs.length = n) : bs.take n ++ (zeros n).drop (min n n) = bs := by
  rw [Nat.min_self, List.take_of_length_le (by omega), List.drop_of_length_le (by rw [zeros_length]; omega), List.append_nil]

set_option maxHeartbeats 400000 in
theorem own_any (a : Option Addr) (len cap : Nat) (bs : List Nat) (w : World) (hr : RowB w a len cap bs) (hlen : len ≤ 1000000000) :
    Calls Try.prog 37 #[.slice a len cap] w (OwnPost len bs w) := by
  have hmk := fun w => make_bytes w len (by omega)
  have HR := Lib.hid hr
  have HS := Lib.hid (own_start bs len hr.length)
  clear hr
  go_enter Try.func37, Try.ntmps37
  go_wp2_with (refine wpList_copy_bytes rfl (.tmp 7) (.tmp 8) rfl w.heap.size _ _ _ _ _ _ bs rfl rfl (heap_alloc_new w _) (zeros_length _) (HR.out.below (below_alloc w _)) ?_; intro w2 hg2 hb2; rw [HS.out] at hg2; have HG2 := Lib.hid hg2; clear hg2; go_frame)
  go_ret
  exact ⟨w.heap.size, rfl, Nat.le_refl _, HG2.out, ((below_alloc w _).trans (hb2.mono (by simp)))⟩

/-- A pen to which all came right. -/
def PenAt (w : World) (p : Nat) (v : Value) (bs : List Nat) : Prop :=
  Blk w p 61 #[v, .bool false] ∧ w.ownsRow 0 5 1 v bs.length (bvals bs) ∧ ∀ c ∈ bs, c < 256
/-- A pen that went wrong. -/
def PenBad (w : World) (p : Nat) : Prop := Blk w p 61 #[.slice none 0 0, .bool true]

/-- The blocks that a call of a pen may change. -/
def PenSet (p : Nat) (v : Value) (k : Nat) : Prop := k = p ∨ some k = v.ownBlock

theorem PenSet.nil {p k : Nat} (h : PenSet p (.slice none 0 0) k) : k = p := by
  rcases h with h | h
  · exact h
  · cases h

theorem PenAt.kept {S : Nat → Prop} {w w' : World} {p : Nat} {v : Value} {bs : List Nat} (h : PenAt w p v bs) (k : Kept S w w') (h1 : ¬ S p) (h2 : ∀ g, v.ownBlock = some g → ¬ S g) : PenAt w' p v bs :=
  ⟨h.1.kept k h1, own_kept h.2.1 k h2, h.2.2⟩

/-- What a call tells that writes ds behind bs. -/
def PenWrote (p : Nat) (v : Value) (bs ds : List Nat) (w : World) (e : Ending) (w' : World) : Prop :=
  e = .returned (.tuple #[]) ∧ ∃ v', PenAt w' p v' (bs ++ ds) ∧ Kept (PenSet p v) w w' ∧ (v'.ownBlock = v.ownBlock ∨ ∃ g, v'.ownBlock = some g ∧ w.heap.size ≤ g)
/-- What a call tells of a pen that is wrong behind it. -/
def PenSpoilt (p : Nat) (w : World) (e : Ending) (w' : World) : Prop := e = .returned (.tuple #[]) ∧ PenBad w' p ∧ Kept (· = p) w w'

set_option maxHeartbeats 400000 in
theorem penBytes_any (p : Nat) (v : Value) (bs : List Nat) (a : Option Addr) (len cap : Nat) (ds : List Nat) (w : World) (hp : PenAt w p v bs) (hr : RowB w a len cap ds) (hs : bs.length + len ≤ 1000000000) :
    Calls Try.prog 30 #[.pointer (some ⟨p, 0, none⟩), .slice a len cap] w (PenWrote p v bs ds w) := by
  obtain ⟨hB, hO, hlt⟩ := hp
  have c0 : w.cell? ⟨p, 0, none⟩ = some v := hB.cell 0
  have c1 : w.cell? ⟨p, 1, none⟩ = some (.bool false) := hB.cell 1
  have HB := Lib.hid hB
  have HO := Lib.hid hO
  have HR := Lib.hid hr
  have Hlt := Lib.hid hlt
  have hne := own_unlike hO hB (by decide)
  clear hB hO hr hlt
  go_enter Try.func30, Try.ntmps30
  go_wp2_with (refine wpList_append_bytes_at rfl (.tmp 13) (.tmp 14) rfl 0 v _ bs rfl HO.out a len cap ds rfl HR.out (by omega) (Nat.zero_le _) ?_; intro v' w1 hown hgrow hwhere; have hB1 := HB.out.grown hgrow hne; have d0 : w1.cell? ⟨p, 0, none⟩ = some v := hB1.cell 0; have f0 := hB1.frozen 0; obtain ⟨a', cap', rfl⟩ := own_slice hown; have HO1 := Lib.hid hown; have HB1 := Lib.hid hB1; have HG := Lib.hid hgrow; have HW := Lib.hid hwhere; clear hown hgrow hwhere hB1; go_frame)
  go_end0
  refine ⟨rfl, .slice a' (bs.length + len) cap', ⟨HB1.out.set 0 _, ?_, ?_⟩, ?_, ?_⟩
  · have h := own_kept HO1.out ((Kept.refl (· = p) w1).setCell rfl (.slice a' (bs.length + len) cap') (p := ⟨p, 0, none⟩)) (fun g hg e => own_unlike HO1.out HB1.out (by decide) (by rw [hg, e]))
    rwa [List.length_append, HR.out.length]
  · intro c hc
    rcases List.mem_append.1 hc with h | h
    · exact Hlt.out c h
    · exact HR.out.lt c h
  · exact ((Kept.refl _ _).grown HG.out (fun g hg => .inr hg.symm)).setCell (.inl rfl) _
  · rcases HW.out with h | h
    · exact .inl h
    · exact .inr ⟨_, h, Nat.le_refl _⟩

set_option maxHeartbeats 400000 in
theorem penBytes_bad (p : Nat) (a : Option Addr) (len cap : Nat) (w : World) (hp : PenBad w p) :
    Calls Try.prog 30 #[.pointer (some ⟨p, 0, none⟩), .slice a len cap] w fun e w' => e = .returned (.tuple #[]) ∧ w = w' := by
  have c1 : w.cell? ⟨p, 1, none⟩ = some (.bool true) := hp.cell 1
  clear hp
  go_enter Try.func30, Try.ntmps30
  go_wp2_with fail
  go_end0
  exact ⟨rfl, rfl⟩

/-- A pen's block: whatever came. -/
theorem penNum_wrong (p : Nat) (v : Value) (r : Bool) (wd x : Int) (w : World) (hp : Blk w p 61 #[v, .bool r]) (hf : fitB wd x = false) :
    Calls Try.prog 29 #[.pointer (some ⟨p, 0, none⟩), .int .i64 wd, .int .i64 x] w (PenSpoilt p w) := by
  have c0 : w.cell? ⟨p, 0, none⟩ = some v := hp.cell 0
  have c1 : w.cell? ⟨p, 1, none⟩ = some (.bool r) := hp.cell 1
  have f0 := hp.frozen 0
  have f1 := hp.frozen 1
  have HB := Lib.hid hp
  have Hf := Lib.hid hf
  clear hp hf
  go_enter Try.func29, Try.ntmps29
  go_wp2_with (go_at_call 36; refine (fits_any _ _ _).mono ?_; rintro e' w' ⟨rfl, rfl⟩; rw [Hf.out])
  go_end0
  exact ⟨rfl, (HB.out.set 0 _).set 1 _, ((Kept.refl (· = p) w).setCell (p := ⟨p, 0, none⟩) rfl _).setCell (p := ⟨p, 1, none⟩) rfl _⟩

theorem leb_set (wd k x : Nat) (hk : k < wd) (hw : wd ≤ 7) :
    (bA (leb k x ++ zeros (7 - k))).setIfInBounds k (.int .u8 ((x / 2 ^ (8 * k) % 256 : Nat) : Int)) = bA (leb (k + 1) x ++ zeros (7 - (k + 1))) := by
  rw [bA_set, List.set_append_right _ _ (by rw [leb_length]; omega), leb_length, leb_succ]
  have e : zeros (7 - k) = 0 :: zeros (7 - (k + 1)) := by
    unfold zeros; rw [show 7 - k = (7 - (k + 1)) + 1 by omega, List.replicate_succ]
  rw [e, Nat.sub_self, List.set_cons_zero]
  simp

theorem byte_val (x k : Nat) : (x : Int) / 2 ^ (8 * k) % 256 = ((x / 2 ^ (8 * k) % 256 : Nat) : Int) := by
  rw [Int.natCast_emod, Int.natCast_ediv, Int.natCast_pow]; rfl

theorem run_slice_arr (w : World) (g n : Nat) (h : n ≤ 7) :
    (Instr.sliceAt 70 (.pointer (some ⟨g, 0, none⟩)) none (some (.int .i64 n)) none).run Try.prog w = .ok (.slice (some ⟨g, 0, none⟩) n 7) w := by
  obtain ⟨i0, hi, hz0, hz1, hz2⟩ := info_parts Try.infoByte
  have hb : (0 : Int) ≤ n ∧ (n : Int) ≤ 7 := by omega
  simp [Instr.sliceAt, Instr.sureAddr, Instr.sliceBounds, Instr.sliceBound, run_underlying Try.underlying70, asIntOf, sizeOf, typeInfo, hi, hb]
  rw [if_pos h]; simp [Addr.add]

set_option maxRecDepth 100000 in
set_option maxHeartbeats 1000000 in
theorem penNum_ok (p : Nat) (v : Value) (bs : List Nat) (wd x : Nat) (w : World) (hp : PenAt w p v bs) (hf : fitB wd x = true) (hs : bs.length + 7 ≤ 1000000000) :
    Calls Try.prog 29 #[.pointer (some ⟨p, 0, none⟩), .int .i64 wd, .int .i64 x] w (PenWrote p v bs (leb wd x) w) := by
  have Hf := Lib.hid hf
  have HP := Lib.hid hp
  have hw := of_decide_eq_true hf
  have h1 : 1 ≤ wd := by omega
  have h7 : wd ≤ 7 := by omega
  clear hp hf hw
  go_enter Try.func29, Try.ntmps29
  go_wp2_with (go_at_call 36; refine (fits_any _ _ _).mono ?_; rintro e' w' ⟨rfl, rfl⟩; rw [Hf.out])
  go_loopw [7, 16] (fun _ i wr => ∃ k : Nat, k ≤ wd ∧ i = .int .i64 k ∧ wr = w.alloc (Obj.cells (bA (leb k x ++ zeros (7 - k))) 70)) (fun _ i _ => wd - (intOf i).toNat)
  case atStart => exact ⟨0, Nat.zero_le _, rfl, rfl⟩
  case round =>
    obtain ⟨k, hk, rfl, rfl⟩ := hrel
    by_cases hlt : k < wd
    · have hset := leb_set wd k x hlt h7
      have hval := byte_val x k
      have hat := bA_at (leb k x ++ zeros (7 - k)) k (by simp [leb_length, zeros_length]; omega)
      generalize x / 2 ^ (8 * k) % 256 = y at *
      generalize (leb k x ++ zeros (7 - k)).getD k 0 = z at *
      go_wp2_with fail
      go_roundw
      case rel => exact ⟨k + 1, by omega, by go_num, by rw [show 7 - (k + 1) = 6 - k by omega]⟩
      case measure => simp [intOf]; omega
    · obtain rfl : k = wd := by omega
      have hsl := fun w g => run_slice_arr w g k h7
      have hPw := HP.out.kept (Kept.of_below (S := fun _ => False) (below_alloc w (Obj.cells (bA (leb k x ++ zeros (7 - k))) 70))) (fun h => h) (fun _ _ h => h)
      have hRw : RowB (w.alloc (Obj.cells (bA (leb k x ++ zeros (7 - k))) 70)) (some ⟨w.heap.size, 0, none⟩) k 7 (leb k x) := by
        have h := row_of_heap (cap := 7) (bs := leb k x) (heap_alloc_new w (Obj.cells (bA (leb k x ++ zeros (7 - k))) 70)) (by simp [bA, bvals]) (leb_lt _ _) (by rw [leb_length]; omega) (by unfold maxLen; omega)
        rwa [leb_length] at h
      have C := Lib.hid (penBytes_any p v bs _ _ _ _ _ hPw hRw (by omega))
      clear hPw hRw
      go_wp2_with fail
      refine C.out.mono ?_
      rintro e' w2 ⟨rfl, v', hP', hK', hV'⟩
      have HP' := Lib.hid hP'
      have HK' := Lib.hid hK'
      have HV' := Lib.hid hV'
      clear hP' hK' hV' hsl
      go_wp2_with fail
      go_end0
      refine ⟨rfl, v', HP'.out, (Kept.of_below (S := fun _ => False) (below_alloc w _)).andThen HK'.out (fun _ _ h => h.elim) (fun _ _ h => h), ?_⟩
      rcases HV'.out with h | ⟨g, h, hg⟩
      · exact .inl h
      · exact .inr ⟨g, h, by simp at hg; omega⟩

set_option maxRecDepth 100000 in
set_option maxHeartbeats 1000000 in
theorem penNum_okBad (p : Nat) (wd x : Nat) (w : World) (hp : PenBad w p) (hf : fitB wd x = true) :
    Calls Try.prog 29 #[.pointer (some ⟨p, 0, none⟩), .int .i64 wd, .int .i64 x] w (PenSpoilt p w) := by
  have Hf := Lib.hid hf
  have HP := Lib.hid hp
  have hw := of_decide_eq_true hf
  have h1 : 1 ≤ wd := by omega
  have h7 : wd ≤ 7 := by omega
  clear hp hf hw
  go_enter Try.func29, Try.ntmps29
  go_wp2_with (go_at_call 36; refine (fits_any _ _ _).mono ?_; rintro e' w' ⟨rfl, rfl⟩; rw [Hf.out])
  go_loopw [7, 16] (fun _ i wr => ∃ k : Nat, k ≤ wd ∧ i = .int .i64 k ∧ wr = w.alloc (Obj.cells (bA (leb k x ++ zeros (7 - k))) 70)) (fun _ i _ => wd - (intOf i).toNat)
  case atStart => exact ⟨0, Nat.zero_le _, rfl, rfl⟩
  case round =>
    obtain ⟨k, hk, rfl, rfl⟩ := hrel
    by_cases hlt : k < wd
    · have hset := leb_set wd k x hlt h7
      have hval := byte_val x k
      have hat := bA_at (leb k x ++ zeros (7 - k)) k (by simp [leb_length, zeros_length]; omega)
      generalize x / 2 ^ (8 * k) % 256 = y at *
      generalize (leb k x ++ zeros (7 - k)).getD k 0 = z at *
      go_wp2_with fail
      go_roundw
      case rel => exact ⟨k + 1, by omega, by go_num, by rw [show 7 - (k + 1) = 6 - k by omega]⟩
      case measure => simp [intOf]; omega
    · obtain rfl : k = wd := by omega
      have hsl := fun w g => run_slice_arr w g k h7
      have hPw : PenBad (w.alloc (Obj.cells (bA (leb k x ++ zeros (7 - k))) 70)) p := Blk.alloc HP.out _
      have C := Lib.hid (penBytes_bad p (some ⟨w.heap.size, 0, none⟩) k 7 _ hPw)
      have HPw := Lib.hid hPw
      clear hPw
      go_wp2_with fail
      refine C.out.mono ?_
      rintro e' w2 ⟨rfl, rfl⟩
      clear hsl
      go_wp2_with fail
      go_end0
      exact ⟨rfl, HPw.out, Kept.of_below (below_alloc w _)⟩

/-- What Out tells of a right pen. -/
def OutOk (bs : List Nat) (w : World) (e : Ending) (w' : World) : Prop :=
  ∃ g, e = .returned (.tuple #[.slice (some ⟨g, 0, none⟩) bs.length bs.length, .int .i64 0]) ∧ w.heap.size ≤ g ∧ Blk w' g 5 (bA bs) ∧ Below w.heap.size w w'

theorem PenAt.row {w : World} {p : Nat} {v : Value} {bs : List Nat} (h : PenAt w p v bs) : ∃ a cap, v = .slice a bs.length cap ∧ RowB w a bs.length cap bs := own_row h.2.1 h.2.2

set_option maxHeartbeats 400000 in
theorem penOut_ok (p : Nat) (v : Value) (bs : List Nat) (w : World) (hp : PenAt w p v bs) (hs : bs.length ≤ 1000000000) :
    Calls Try.prog 31 #[.pointer (some ⟨p, 0, none⟩)] w (OutOk bs w) := by
  obtain ⟨a, cap, rfl, hr⟩ := hp.row
  have c0 : w.cell? ⟨p, 0, none⟩ = some (.slice a bs.length cap) := hp.1.cell 0
  have c1 : w.cell? ⟨p, 1, none⟩ = some (.bool false) := hp.1.cell 1
  have C := Lib.hid (own_any a bs.length cap bs w hr hs)
  clear hp hr
  go_enter Try.func31, Try.ntmps31
  go_wp2_with fail
  refine C.out.mono ?_
  rintro e' w2 ⟨g, rfl, hg, hG, hB⟩
  have HG := Lib.hid hG
  clear hG
  go_wp2_with fail
  go_ret2
  exact ⟨g, rfl, hg, HG.out, hB⟩

set_option maxHeartbeats 400000 in
theorem penOut_bad (p : Nat) (w : World) (hp : PenBad w p) :
    Calls Try.prog 31 #[.pointer (some ⟨p, 0, none⟩)] w fun e w' => e = .returned (.tuple #[.slice none 0 0, .int .i64 13]) ∧ w = w' := by
  have c1 : w.cell? ⟨p, 1, none⟩ = some (.bool true) := hp.cell 1
  clear hp
  go_enter Try.func31, Try.ntmps31
  go_wp2_with fail
  go_ret2
  exact ⟨rfl, rfl⟩

end Go.Proofs.Ytdjnfikacjfkkaa
