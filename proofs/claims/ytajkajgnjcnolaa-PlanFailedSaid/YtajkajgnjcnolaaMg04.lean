import Derived.Test.YtajkajgnjcnolaaMg03
import Derived.OrdersHeld
import Derived.Deep.RegionHeld
/-
  Layer 3 (frame), second part: steps over frames and sectors; a pen right or wrong; what write tells.
-/
namespace Go.Proofs.Ytajkajgnjcnolaa
open Go.RowKit CrcM
set_option linter.unusedVariables false
set_option linter.unnecessarySimpa false
set_option linter.unusedSimpArgs false

section
variable {P : Program} {w : World} {ops : Array Oper} {rest : List Oper} {o : Oper} {a : Act} {Q : Exit → Act → World → Prop}

theorem wp_copy_at {K : Act → World → Prop} (hgd : o.guard = none) (d s : Operand) (dT sT : TypeId) (ho : o.op = .call { callee := .builtin .copy, args := #[d, s], argTypes := #[dT, sT] }) {elem : TypeId} (hu : P.underlying dT = some (.slice elem)) (hsz : (P.info? elem).map (·.size) = some 1)
    (g off dLen dCap : Nat) (cur : List Value) (t : TypeId) (hg : Blk w g t cur.toArray) (hd : a.eval d = .slice (some ⟨g, off, none⟩) dLen dCap) (hfit : off + dLen ≤ cur.length) (sp : Option Addr) (sLen sCap : Nat) (bs : List Nat) (hs : a.eval s = .slice sp sLen sCap) (hrow : RowB w sp sLen sCap bs)
    (h : ∀ w', Blk w' g t (splice cur off (bvals (bs.take dLen))).toArray → Below g w w' → K (a.put o.dst (goInt (min sLen dLen : Nat))) w') : Oper.wp P o a w K Q := by
  have hbl := hrow.length
  have hlen : (bvals (bs.take dLen)).length = min sLen dLen := by rw [bvals_length, List.length_take, hbl, Nat.min_comm]
  have hw : Region.wanted o (yielded #[] a.tmps) = true := by simp [Region.wanted, hgd]
  have hstep := step_copy_splice (P := P) (ops := #[]) (o := o) (a := a) (w := w) (K := K) (Q := Q) (E := True) hgd d s dT sT ho elem hu hsz _ sp dLen dCap sLen sCap hd hs g off cur t hg (bvals (bs.take dLen)) hlen ?_ ?_ (bvals_one _) g w (Below.refl _ _) (Nat.le_refl _) ?_
  · rwa [if_pos hw] at hstep
  · intro h0
    rw [hlen] at h0
    obtain ⟨b, off', rfl, _⟩ := hrow.cells (by omega)
    refine ⟨rfl, _, rfl, fun j v hv => hrow.src _ rfl j v ?_⟩
    have hj : j < (bvals (bs.take dLen)).length := by
      by_cases hj : j < (bvals (bs.take dLen)).length
      · exact hj
      · rw [List.getElem?_eq_none (by omega)] at hv; cases hv
    rw [hlen] at hj
    rw [← hv]
    simp only [bvals, List.getElem?_map, List.getElem?_take_of_lt (show j < dLen by omega)]
  · rw [hlen]; omega
  · intro w' hg' hb'
    rw [hlen]
    exact h w' hg'.out hb'
end

/-- What a number more makes of a pen. -/
def pNum (r : Option (List Nat)) (wd x : Int) : Option (List Nat) := if fitB wd x = true then r.map (· ++ leb wd.toNat x.toNat) else none
def pBytes (r : Option (List Nat)) (ds : List Nat) : Option (List Nat) := r.map (· ++ ds)

/-- What write tells: something, and an error or none; where the bytes fit, a row of them. -/
def WritePost (r : Option (List Nat)) (w : World) (e : Ending) (w' : World) : Prop :=
  ∃ v x, e = .returned (.tuple #[v, .int .i64 x]) ∧ Below w.heap.size w w' ∧ ∀ qs, r = some qs → x = 0 ∧ ∃ g, v = .slice (some ⟨g, 0, none⟩) qs.length qs.length ∧ w.heap.size ≤ g ∧ Blk w' g 5 (bA qs)

/-- All that stands ahead of the sum, if it fits. -/
def aheadO (f : FrR) : Option (List Nat) := pBytes (pNum (pNum (pNum (pNum (pNum (pNum (some []) 1 f.k) 1 1) 2 f.z) 2 f.o) 4 f.e) 6 f.s) f.b
/-- .. of a right frame. -/
def ahead (f : FrR) : List Nat := leb 1 f.k.toNat ++ leb 1 1 ++ leb 2 f.z.toNat ++ leb 2 f.o.toNat ++ leb 4 f.e.toNat ++ leb 6 f.s.toNat ++ f.b
/-- Its sector. -/
def sec (f : FrR) : List Nat := sealed (ahead f)

theorem fit_of {k : Nat} {x : Int} (hk : 1 ≤ k ∧ k ≤ 7) (h0 : 0 ≤ x) (h1 : x < 256 ^ k) : fitB (k : Int) x = true :=
  decide_eq_true ⟨by omega, by omega, h0, by rw [Int.toNat_natCast]; exact h1⟩

theorem aheadO_right {f : FrR} (h : rightB f = true) : aheadO f = some (ahead f) := by
  obtain ⟨⟨h1, h2⟩, ⟨h3, h4⟩, ⟨h5, h6⟩, ⟨h7, h8⟩, h9, h10⟩ := (right_iff f).1 h
  unfold aheadO pNum pBytes
  rw [show fitB 1 f.k = true from fit_of (k := 1) (by omega) (by omega) (by omega), show fitB 1 1 = true from by decide, show fitB 2 f.z = true from fit_of (k := 2) (by omega) (by omega) (by omega), show fitB 2 f.o = true from fit_of (k := 2) (by omega) (by omega) (by omega),
    show fitB 4 f.e = true from fit_of (k := 4) (by omega) (by omega) (by omega), show fitB 6 f.s = true from fit_of (k := 6) (by omega) (by omega) (by omega)]
  simp [ahead]

theorem ahead_length {f : FrR} (h : f.b.length = 44) : (ahead f).length = 60 := by simp [ahead, leb_length, h]
theorem ahead_lt {f : FrR} (h : ∀ c ∈ f.b, c < 256) : ∀ c ∈ ahead f, c < 256 := by
  intro c hc
  simp only [ahead, List.mem_append] at hc
  rcases hc with (((((h1 | h1) | h1) | h1) | h1) | h1) | h1
  all_goals first | exact leb_lt _ _ c h1 | exact h c h1
theorem sec_length {f : FrR} (h : f.b.length = 44) : (sec f).length = 64 := by rw [sec, sealed_length, ahead_length h]
theorem sec_lt {f : FrR} (h : ∀ c ∈ f.b, c < 256) : ∀ c ∈ sec f, c < 256 := sealed_lt (ahead_lt h)

/-- A frame's body, as a row. -/
theorem row_body {w : World} {g : Nat} {t : TypeId} {f : FrR} (h : Blk w g t (frA f)) (hl : f.b.length = 44) (hb : ∀ c ∈ f.b, c < 256) : RowB w (some ⟨g, 5, none⟩) 44 44 f.b :=
  ⟨hl, Nat.le_refl _, by unfold maxLen; omega, hb, fun _ => ⟨g, 5, rfl, fun i hi => (h.cell (5 + i)).trans (frA_body f i (by omega))⟩, fun h => by cases h⟩

end Go.Proofs.Ytajkajgnjcnolaa

/-
  The contract of Open (layer 1).
-/
namespace Go.Proofs.Ytajkajgnjcnolaa
open Go.RowKit CrcM
set_option linter.unusedVariables false
set_option linter.unnecessarySimpa false
set_option linter.unusedSimpArgs false

/-- What Open tells of an error. -/
def OpenErr (x : Int) (w : World) (e : Ending) (w' : World) : Prop := e = .returned (.tuple #[.slice none 0 0, .int .i64 x]) ∧ Below w.heap.size w w'
/-- What Open tells of sound bytes: n bytes xs. -/
def OpenOk (n : Nat) (xs : List Nat) (w : World) (e : Ending) (w' : World) : Prop :=
  ∃ g, e = .returned (.tuple #[.slice (some ⟨g, 0, none⟩) n n, .int .i64 0]) ∧ w.heap.size ≤ g ∧ w'.heap[g]? = some (.cells (bA xs) 5 (0, 0)) ∧ Below w.heap.size w w'

theorem open_row (bs : List Nat) (n : Nat) : bs.take n ++ (zeros n).drop (min (n + 4) n) = bs.take n := by
  rw [Nat.min_eq_right (by omega), List.drop_of_length_le (by rw [zeros_length]; omega), List.append_nil]

theorem sealed_take (xs : List Nat) (n : Nat) (h : xs.length = n) : (sealed xs).take n = xs := by subst h; simp [sealed]
theorem sealed_drop (xs : List Nat) (n : Nat) (h : xs.length = n) : (sealed xs).drop n = leb 4 (sm xs) := by subst h; simp [sealed]
theorem sealed_sound (xs : List Nat) (n : Nat) (h : xs.length = n) (hb : ∀ c ∈ xs, c < 256) : sm ((sealed xs).take n) = num ((sealed xs).drop n) := by
  rw [sealed_take xs n h, sealed_drop xs n h, leb_num, Nat.mod_eq_of_lt (sm_lt hb)]

end Go.Proofs.Ytajkajgnjcnolaa

/-
  Layer 3 (frame), third part: Encode.
-/
namespace Go.Proofs.Ytajkajgnjcnolaa
open Go.RowKit CrcM
set_option linter.unusedVariables false
set_option linter.unnecessarySimpa false
set_option linter.unusedSimpArgs false

theorem zero_sec (w : World) : (zeroValue 34).run Try.prog w = .ok (.agg (bA (zeros 64))) w := by kernel_rfl
/-- The empty frame. -/
def fr0 : FrR := ⟨0, 0, 0, 0, 0, zeros 44⟩
/-- What Encode tells of a frame that may not be. -/
def EncErr (w : World) (e : Ending) (w' : World) : Prop := e = .returned (.tuple #[.agg (bA (zeros 64)), .int .i64 10]) ∧ Below w.heap.size w w'
/-- .. of one that may. -/
def EncOk (f : FrR) (w : World) (e : Ending) (w' : World) : Prop := e = .returned (.tuple #[.agg (bA (sec f)), .int .i64 0]) ∧ Below w.heap.size w w'

theorem run_slice_64 (w : World) (g : Nat) :
    (Instr.sliceAt 34 (.pointer (some ⟨g, 0, none⟩)) none none none).run Try.prog w = .ok (.slice (some ⟨g, 0, none⟩) 64 64) w := by
  obtain ⟨i0, hi, hz0, hz1, hz2⟩ := info_parts Try.infoByte
  simp [Instr.sliceAt, Instr.sureAddr, Instr.sliceBounds, Instr.sliceBound, run_underlying Try.underlying34, asIntOf, sizeOf, typeInfo, hi, Addr.add]

theorem splice_full {xs zs : List Nat} {n : Nat} (h : xs.length = n) (hz : zs.length = n) : (splice (bvals zs) 0 (bvals (xs.take n))).toArray = bA xs := by
  unfold splice bA
  rw [List.take_of_length_le (l := xs) (by omega), List.take_zero, List.nil_append, List.drop_of_length_le (by rw [bvals_length, bvals_length]; omega), List.append_nil]

end Go.Proofs.Ytajkajgnjcnolaa

/-
  Layer 3 (frame), fourth part: read.
-/
namespace Go.Proofs.Ytajkajgnjcnolaa
open Go.RowKit CrcM
set_option linter.unusedVariables false
set_option linter.unnecessarySimpa false
set_option linter.unusedSimpArgs false

/-- What Bytes tells of it. -/
def RdFGave (bs : List Nat) (j k r : Nat) (w : World) (e : Ending) (w' : World) : Prop :=
  ∃ a, e = .returned (.slice a k k) ∧ RowB w' a k k ((bs.drop j).take k) ∧ Kept (· = r) w w'

/-- The frame that stands ahead of a sum, right or not. -/
def rd (bs : List Nat) : FrR := ⟨(num ((bs.drop 0).take 1) : Nat), (num ((bs.drop 2).take 2) : Nat), (num ((bs.drop 4).take 2) : Nat), (num ((bs.drop 6).take 4) : Nat), (num ((bs.drop 10).take 6) : Nat), (bs.drop 16).take 44⟩
/-- Its version. -/
def ver (bs : List Nat) : Nat := num ((bs.drop 1).take 1)

theorem rd_len {bs : List Nat} (h : bs.length = 60) : (rd bs).b.length = 44 := by simp [rd, h]
theorem rd_lt {bs : List Nat} (h : ∀ c ∈ bs, c < 256) : ∀ c ∈ (rd bs).b, c < 256 := fun c hc => h c (List.mem_of_mem_drop (List.mem_of_mem_take hc))

theorem fr0_len : fr0.b.length = 44 := zeros_length 44
theorem frA_set0 (f : FrR) (x : Int) : (frA f).setIfInBounds 0 (.int .i64 x) = frA { f with k := x } := by simp [frA, frL]
theorem frA_set1 (f : FrR) (x : Int) : (frA f).setIfInBounds 1 (.int .i64 x) = frA { f with z := x } := by simp [frA, frL]
theorem frA_set2 (f : FrR) (x : Int) : (frA f).setIfInBounds 2 (.int .i64 x) = frA { f with o := x } := by simp [frA, frL]
theorem frA_set3 (f : FrR) (x : Int) : (frA f).setIfInBounds 3 (.int .i64 x) = frA { f with e := x } := by simp [frA, frL]
theorem frA_set4 (f : FrR) (x : Int) : (frA f).setIfInBounds 4 (.int .i64 x) = frA { f with s := x } := by simp [frA, frL]
theorem frL_body (f : FrR) (xs : List Nat) (hf : f.b.length = 44) (hx : xs.length = 44) : (splice (frL f) 5 (bvals xs)).toArray = frA { f with b := xs } := by
  unfold splice frA frL
  rw [List.take_append_of_le_length (by simp), List.drop_of_length_le (by simp [bvals_length, hf, hx])]
  simp

/-- What read tells. -/
def ReadPost (bs : List Nat) (w : World) (e : Ending) (w' : World) : Prop := e = .returned (.tuple #[.agg (frA (rd bs)), .int .i64 (ver bs : Nat)]) ∧ Below w.heap.size w w'

end Go.Proofs.Ytajkajgnjcnolaa

/-
  Layer 3 (frame), fifth part: Decode.
-/
namespace Go.Proofs.Ytajkajgnjcnolaa
open Go.RowKit CrcM
set_option linter.unusedVariables false
set_option linter.unnecessarySimpa false
set_option linter.unusedSimpArgs false

/-- What Decode tells: a frame and an error. -/
def DecPost (f : FrR) (x : Int) (w : World) (e : Ending) (w' : World) : Prop := e = .returned (.tuple #[.agg (frA f), .int .i64 x]) ∧ Below w.heap.size w w'

/-- Is a sector's sum right? -/
def soundB (bs : List Nat) : Bool := decide (sm (bs.take 60) = num (bs.drop 60))
/-- May what stands ahead of it be? -/
def formB (bs : List Nat) : Bool := decide (ver (bs.take 60) = 1) && rightB (rd (bs.take 60))
/-- Decode's error. -/
def decE (bs : List Nat) : Int := if soundB bs = true then (if formB bs = true then 0 else 10) else 11
/-- Decode's frame. -/
def decF (bs : List Nat) : FrR := if soundB bs = true ∧ formB bs = true then rd (bs.take 60) else fr0

theorem decF_len {bs : List Nat} (h : bs.length = 64) : (decF bs).b.length = 44 := by
  unfold decF; split
  · exact rd_len (by rw [List.length_take, h]; decide)
  · exact fr0_len
theorem decF_lt {bs : List Nat} (h : ∀ c ∈ bs, c < 256) : ∀ c ∈ (decF bs).b, c < 256 := by
  unfold decF; split
  · exact rd_lt (fun c hc => h c (List.mem_of_mem_take hc))
  · exact zeros_lt 44

end Go.Proofs.Ytajkajgnjcnolaa

/-
  Layer 3 (frame), sixth part: At, Sum, Xor.
-/
namespace Go.Proofs.Ytajkajgnjcnolaa
open Go.RowKit CrcM
set_option linter.unusedVariables false
set_option linter.unnecessarySimpa false
set_option linter.unusedSimpArgs false

/-- At's error and frame. -/
def atE (bs : List Nat) (zn of : Int) : Int := if decE bs = 0 then (if (decF bs).z = zn ∧ (decF bs).o = of then 0 else 12) else decE bs
def atF (bs : List Nat) (zn of : Int) : FrR := if decE bs = 0 ∧ (decF bs).z = zn ∧ (decF bs).o = of then decF bs else fr0

theorem atF_len {bs : List Nat} (h : bs.length = 64) (zn of : Int) : (atF bs zn of).b.length = 44 := by
  unfold atF; split
  · exact decF_len h
  · exact fr0_len

theorem run_slice_60 (w : World) (g : Nat) :
    (Instr.sliceAt 34 (.pointer (some ⟨g, 0, none⟩)) (some (.int .i64 60)) none none).run Try.prog w = .ok (.slice (some ⟨g, 60, none⟩) 4 4) w := by
  obtain ⟨i0, hi, hz0, hz1, hz2⟩ := info_parts Try.infoByte
  simp [Instr.sliceAt, Instr.sureAddr, Instr.sliceBounds, Instr.sliceBound, run_underlying Try.underlying34, asIntOf, sizeOf, typeInfo, hi, hz1, Addr.add]

/-- An exclusive or on its way: k bytes done. -/
def xl (xs ys : List Nat) (k : Nat) : List Nat := (List.range 64).map fun i => if i < k then xs.getD i 0 ^^^ ys.getD i 0 else xs.getD i 0
theorem xl_length (xs ys : List Nat) (k : Nat) : (xl xs ys k).length = 64 := by simp [xl]
theorem xl_at (xs ys : List Nat) (k : Nat) (h : k < 64) : (xl xs ys k).getD k 0 = xs.getD k 0 := by simp [xl, List.getD, h]
theorem xl_zero (xs ys : List Nat) (h : xs.length = 64) : xl xs ys 0 = xs := by
  apply list_eq_of_getD (n := 64) (xl_length _ _ _) h
  intro i hi
  simp [xl, List.getD, hi]
theorem xl_full (xs ys : List Nat) : xl xs ys 64 = zx xs ys 64 := by
  unfold xl zx
  apply List.map_congr_left
  intro i hi
  rw [if_pos (by simpa using hi)]
theorem xl_set (xs ys : List Nat) (k : Nat) (h : k < 64) : (xl xs ys k).set k (xs.getD k 0 ^^^ ys.getD k 0) = xl xs ys (k + 1) := by
  apply list_eq_of_getD (n := 64) (by rw [List.length_set, xl_length]) (xl_length _ _ _)
  intro i hi
  by_cases hk : k = i
  · subst hk
    simp [xl, List.getD, hi]
  · simp only [xl, List.getD, List.getElem?_set, if_neg hk]
    simp only [List.getElem?_map, List.getElem?_range hi, Option.map_some, Option.getD_some]
    by_cases h1 : i < k
    · rw [if_pos h1, if_pos (by omega)]
    · rw [if_neg h1, if_neg (by omega)]

theorem run_index_sec (w : World) (ys : List Nat) (k : Nat) (hk : k < 64) (hy : ys.length = 64) :
    (Instr.index 34 (.agg (bA ys)) (.int .i64 k)).run Try.prog w = .ok (.int .u8 (ys.getD k 0 : Nat)) w := by
  obtain ⟨i, hi⟩ := info_of_underlying (P := Try.prog) Try.underlying5
  have hs := run_sizeOf (P := Try.prog) w hi
  rw [Try.cellsByte] at hs
  have p1 := run_part_int (P := Try.prog) w Try.underlying5 (bA_at ys k (by omega))
  have hb : (0 : Int) ≤ k ∧ (k : Int) < (64 : Nat) := by omega
  simp only [Instr.index, asIntOf, Sem.run_bind, Sem.run_pure, Result.andThen_ok, run_underlying Try.underlying34, if_pos hb, hs, Int.toNat_natCast, Nat.mul_one, p1]

set_option maxRecDepth 100000 in
set_option maxHeartbeats 1000000 in
theorem xor_any (xs ys : List Nat) (w : World) (hx : xs.length = 64) (hy : ys.length = 64) (hxb : ∀ c ∈ xs, c < 256) (hyb : ∀ c ∈ ys, c < 256) :
    Calls Try.prog 16 #[.agg (bA xs), .agg (bA ys)] w fun e w' => e = .returned (.agg (bA (zx xs ys 64))) ∧ Below w.heap.size w w' := by
  have HX := Lib.hid hx
  have HY := Lib.hid hy
  have HXb := Lib.hid hxb
  have HYb := Lib.hid hyb
  have hz := zero_sec
  have hX : Blk (((w.alloc (Obj.cells (bA xs) 34)).alloc (Obj.cells (bA ys) 34)).alloc (Obj.cells (bA (zeros 64)) 34)) w.heap.size 34 (bA xs) := Blk.alloc (Blk.alloc (Blk.new w 34 (bA xs)) _) _
  have hY : Blk (((w.alloc (Obj.cells (bA xs) 34)).alloc (Obj.cells (bA ys) 34)).alloc (Obj.cells (bA (zeros 64)) 34)) (w.heap.size + 1) 34 (bA ys) := by
    have h := Blk.alloc (Blk.new (w.alloc (Obj.cells (bA xs) 34)) 34 (bA ys)) (Obj.cells (bA (zeros 64)) 34)
    rwa [show (w.alloc (Obj.cells (bA xs) 34)).heap.size = w.heap.size + 1 by simp] at h
  have hO : Blk (((w.alloc (Obj.cells (bA xs) 34)).alloc (Obj.cells (bA ys) 34)).alloc (Obj.cells (bA (zeros 64)) 34)) (w.heap.size + 2) 34 (bA (zeros 64)) := by
    have h := Blk.new ((w.alloc (Obj.cells (bA xs) 34)).alloc (Obj.cells (bA ys) 34)) 34 (bA (zeros 64))
    rwa [show ((w.alloc (Obj.cells (bA xs) 34)).alloc (Obj.cells (bA ys) 34)).heap.size = w.heap.size + 2 by simp] at h
  have hB : Below w.heap.size w (((w.alloc (Obj.cells (bA xs) 34)).alloc (Obj.cells (bA ys) 34)).alloc (Obj.cells (bA (zeros 64)) 34)) := bthen (below_alloc _ _) (bthen (below_alloc _ _) (below_alloc _ _))
  have HX0 := Lib.hid hX
  have HY0 := Lib.hid hY
  have HO0 := Lib.hid hO
  have HB0 := Lib.hid hB
  clear hx hy hxb hyb hX hY hO hB
  go_enter Try.func16, Try.ntmps16
  go_wp2_with (first | (refine wpl_load rfl _ rfl (w.heap.size + 1) rfl _ _ _ HY0.out Try.underlying34 rfl (info_sec HY.out) ?_; go_frame))
  clear hz
  generalize (((w.alloc (Obj.cells (bA xs) 34)).alloc (Obj.cells (bA ys) 34)).alloc (Obj.cells (bA (zeros 64)) 34)) = w0 at *
  go_loopw [8] (fun i wr => ∃ k : Nat, k ≤ 64 ∧ i = .int .i64 k ∧ Blk wr w.heap.size 34 (bA (xl xs ys k)) ∧ Kept (· = w.heap.size) w0 wr) (fun i _ => 64 - (intOf i).toNat)
  case atStart => exact ⟨0, Nat.zero_le _, rfl, by rw [xl_zero _ _ HX.out]; exact HX0.out, Kept.refl _ _⟩
  case round =>
    obtain ⟨k, hk, rfl, hg, hkp⟩ := hrel
    have Hg := Lib.hid hg
    have Hk := Lib.hid hkp
    clear hg hkp
    by_cases hlt : k < 64
    · have cx := (Hg.out.cell k).trans ((bA_at _ k (by rw [xl_length]; exact hlt)).trans (by rw [xl_at xs ys k hlt]))
      have fx := Hg.out.frozen k
      have cy := fun w => run_index_sec w ys k hlt HY.out
      have lx := getD_lt HXb.out k
      have ly := getD_lt HYb.out k
      have hxor := u8_xor_nat _ _ lx ly
      have hset := xl_set xs ys k hlt
      have hgs := Hg.out.set k (.int .u8 ((xs.getD k 0 ^^^ ys.getD k 0 : Nat)))
      rw [bA_set, hset] at hgs
      have Hgs := Lib.hid hgs
      clear hset hgs
      generalize xs.getD k 0 ^^^ ys.getD k 0 = v at *
      generalize xs.getD k 0 = x at *
      generalize ys.getD k 0 = y at *
      have hd : decide ((k : Int) < 64) = true := by simp; omega
      go_wp2_with fail
      go_roundw
      case rel => exact ⟨k + 1, by omega, by go_num, Hgs.out, Hk.out.setCell rfl _⟩
      case measure => simp [intOf]; omega
    · obtain rfl : k = 64 := by omega
      have Hg2 : Hid (Blk wr w.heap.size 34 (bA (zx xs ys 64))) := Lib.hid (by rw [← xl_full]; exact Hg.out)
      have HO2 := Lib.hid (HO0.out.kept Hk.out (by omega))
      have HB2 := Lib.hid (bkept HB0.out (Nat.le_refl _) Hk.out (fun i hi h => by omega))
      clear Hg Hk
      go_wp2_with (first | (refine wpl_load rfl _ rfl (w.heap.size) rfl _ _ _ Hg2.out Try.underlying34 rfl (info_sec (zx_length xs ys 64)) ?_; go_frame) | (refine wpl_store rfl _ _ rfl (w.heap.size + 2) (bA (zx xs ys 64)) rfl rfl _ _ HO2.out (info_sec (zx_length xs ys 64)) (by rw [bA_size, bA_size, zeros_length, zx_length]) (bA_one _) ?_; intro w3 hS3 hK3; have HS3 := Lib.hid hS3; have HK3 := Lib.hid hK3; clear hS3 hK3; go_frame))
      exact bodyPost_ret (v := .agg (bA (zx xs ys 64))) (results_cell_row Try.results16 _ _ (w.heap.size + 2) _ _ (0, 0) _ rfl HS3.out Try.underlying34 rfl (info_sec (zx_length xs ys 64))) rfl ⟨rfl, bkept HB2.out (Nat.le_refl _) HK3.out (fun i hi h => by omega)⟩

end Go.Proofs.Ytajkajgnjcnolaa

/-
  Layer 3 (frame), ninth part: what is written is read; what a pattern does.
-/
namespace Go.Proofs.Ytajkajgnjcnolaa
open Go.RowKit CrcM
set_option linter.unusedVariables false
set_option linter.unnecessarySimpa false
set_option linter.unusedSimpArgs false

theorem leb_drop (k s j : Nat) (h : k ≤ j) : (leb k s).drop j = [] := List.drop_of_length_le (by rw [leb_length]; exact h)
theorem leb_take (k s j : Nat) (h : k ≤ j) : (leb k s).take j = leb k s := List.take_of_length_le (by rw [leb_length]; exact h)

/-- The middle part of three. -/
theorem part_mid {α : Type} (a b c : List α) (j k : Nat) (ha : a.length = j) (hb : b.length = k) : ((a ++ b ++ c).drop j).take k = b := by
  subst ha hb
  rw [List.append_assoc, List.drop_left, List.take_left]

theorem ahead_k (f : FrR) : ((ahead f).drop 0).take 1 = leb 1 f.k.toNat := by
  have := part_mid [] (leb 1 f.k.toNat) (leb 1 1 ++ leb 2 f.z.toNat ++ leb 2 f.o.toNat ++ leb 4 f.e.toNat ++ leb 6 f.s.toNat ++ f.b) 0 1 rfl (leb_length _ _)
  rw [← this]; congr 2; all_goals simp [ahead]
theorem ahead_v (f : FrR) : ((ahead f).drop 1).take 1 = leb 1 1 := by
  have := part_mid (leb 1 f.k.toNat) (leb 1 1) (leb 2 f.z.toNat ++ leb 2 f.o.toNat ++ leb 4 f.e.toNat ++ leb 6 f.s.toNat ++ f.b) 1 1 (leb_length _ _) (leb_length _ _)
  rw [← this]; congr 2; all_goals simp [ahead]
theorem ahead_z (f : FrR) : ((ahead f).drop 2).take 2 = leb 2 f.z.toNat := by
  have := part_mid (leb 1 f.k.toNat ++ leb 1 1) (leb 2 f.z.toNat) (leb 2 f.o.toNat ++ leb 4 f.e.toNat ++ leb 6 f.s.toNat ++ f.b) 2 2 (by simp [leb_length]) (leb_length _ _)
  rw [← this]; congr 2; all_goals simp [ahead]
theorem ahead_o (f : FrR) : ((ahead f).drop 4).take 2 = leb 2 f.o.toNat := by
  have := part_mid (leb 1 f.k.toNat ++ leb 1 1 ++ leb 2 f.z.toNat) (leb 2 f.o.toNat) (leb 4 f.e.toNat ++ leb 6 f.s.toNat ++ f.b) 4 2 (by simp [leb_length]) (leb_length _ _)
  rw [← this]; congr 2; all_goals simp [ahead]
theorem ahead_e (f : FrR) : ((ahead f).drop 6).take 4 = leb 4 f.e.toNat := by
  have := part_mid (leb 1 f.k.toNat ++ leb 1 1 ++ leb 2 f.z.toNat ++ leb 2 f.o.toNat) (leb 4 f.e.toNat) (leb 6 f.s.toNat ++ f.b) 6 4 (by simp [leb_length]) (leb_length _ _)
  rw [← this]; congr 2; all_goals simp [ahead]
theorem ahead_s (f : FrR) : ((ahead f).drop 10).take 6 = leb 6 f.s.toNat := by
  have := part_mid (leb 1 f.k.toNat ++ leb 1 1 ++ leb 2 f.z.toNat ++ leb 2 f.o.toNat ++ leb 4 f.e.toNat) (leb 6 f.s.toNat) f.b 10 6 (by simp [leb_length]) (leb_length _ _)
  rw [← this]; congr 2; all_goals simp [ahead]
theorem ahead_b (f : FrR) (h : f.b.length = 44) : ((ahead f).drop 16).take 44 = f.b := by
  have := part_mid (leb 1 f.k.toNat ++ leb 1 1 ++ leb 2 f.z.toNat ++ leb 2 f.o.toNat ++ leb 4 f.e.toNat ++ leb 6 f.s.toNat) f.b [] 16 44 (by simp [leb_length]) h
  rw [← this]; congr 2; all_goals simp [ahead]

/-- A number that fits is read as it was. -/
theorem num_back (k : Nat) (x : Int) (h0 : 0 ≤ x) (h : x.toNat < 2 ^ (8 * k)) : ((num (leb k x.toNat) : Nat) : Int) = x := by
  rw [leb_num, Nat.mod_eq_of_lt h]; omega

theorem rd_ahead (f : FrR) (hr : rightB f = true) (hl : f.b.length = 44) : rd (ahead f) = f := by
  obtain ⟨⟨h1, h2⟩, ⟨h3, h4⟩, ⟨h5, h6⟩, ⟨h7, h8⟩, h9, h10⟩ := (right_iff f).1 hr
  unfold rd
  rw [ahead_k, ahead_z, ahead_o, ahead_e, ahead_s, ahead_b f hl, num_back 1 f.k (by omega) (by omega), num_back 2 f.z h3 (by omega), num_back 2 f.o h5 (by omega), num_back 4 f.e (by omega) (by omega), num_back 6 f.s h9 (by omega)]
theorem ver_ahead (f : FrR) : ver (ahead f) = 1 := by unfold ver; rw [ahead_v]; decide

theorem sec_take (f : FrR) (hl : f.b.length = 44) : (sec f).take 60 = ahead f := sealed_take _ 60 (ahead_length hl)

/-- What is written is read. -/
theorem dec_sec (f : FrR) (hr : rightB f = true) (hl : f.b.length = 44) (hb : ∀ c ∈ f.b, c < 256) : decE (sec f) = 0 ∧ decF (sec f) = f := by
  have h1 : soundB (sec f) = true := decide_eq_true (sealed_sound (ahead f) 60 (ahead_length hl) (ahead_lt hb))
  have h2 : formB (sec f) = true := by unfold formB; rw [sec_take f hl, ver_ahead, rd_ahead f hr hl, hr]; rfl
  unfold decE decF
  rw [h1, h2, sec_take f hl, rd_ahead f hr hl]
  simp

theorem sec_inj (f g : FrR) (hf : rightB f = true) (hg : rightB g = true) (hlf : f.b.length = 44) (hlg : g.b.length = 44) : sec f = sec g ↔ f = g := by
  constructor
  · intro h
    rw [← rd_ahead f hf hlf, ← rd_ahead g hg hlg, ← sec_take f hlf, ← sec_take g hlg, h]
  · intro h; rw [h]

/-- A pattern that is no multiple is found, and no other one by the sum. -/
theorem spoilt_iff (f : FrR) (q : List Nat) (hl : f.b.length = 44) (hb : ∀ c ∈ f.b, c < 256) (hq : q.length = 64) (hqb : ∀ c ∈ q, c < 256) : soundB (zx (sec f) q 64) = decide (ovr 0 q = 0) := by
  have h := pattern_spec (ahead f) q 60 (ahead_lt hb) hqb (ahead_length hl) hq
  unfold soundB
  rw [Bool.eq_iff_iff, decide_eq_true_eq, decide_eq_true_eq]
  exact h
theorem decE_sum (bs : List Nat) : (decE bs == 11) = !soundB bs := by
  unfold decE
  cases soundB bs
  · rfl
  · cases formB bs <;> rfl

theorem zx_twice (xs q : List Nat) (hx : xs.length = 64) (hxb : ∀ c ∈ xs, c < 256) : zx (zx xs q 64) q 64 = xs := by
  apply list_eq_of_getD (n := 64) (zx_length _ _ _) hx
  intro i hi
  have h1 : ∀ a b : List Nat, (zx a b 64).getD i 0 = a.getD i 0 ^^^ b.getD i 0 := fun a b => by simp [zx, List.getD, hi]
  rw [h1, h1, Nat.xor_assoc, Nat.xor_self, Nat.xor_zero]

/-- At tells the place of another frame. -/
theorem at_sec (f : FrR) (zn of : Int) (hr : rightB f = true) (hl : f.b.length = 44) (hb : ∀ c ∈ f.b, c < 256) :
    (f.z = zn ∧ f.o = of → atE (sec f) zn of = 0 ∧ atF (sec f) zn of = f) ∧ (¬ (f.z = zn ∧ f.o = of) → atE (sec f) zn of = 12 ∧ atF (sec f) zn of = fr0) := by
  obtain ⟨h1, h2⟩ := dec_sec f hr hl hb
  unfold atE atF
  rw [h1, h2]
  constructor
  · intro h; simp [h]
  · intro h; simp only [true_and, if_true]; rw [if_neg h, if_neg h]; exact ⟨rfl, rfl⟩

end Go.Proofs.Ytajkajgnjcnolaa

/-
  Layer 3 (frame), seventh part: the document's Bytes.
-/
namespace Go.Proofs.Ytajkajgnjcnolaa
open Go.RowKit CrcM
set_option linter.unusedVariables false
set_option linter.unnecessarySimpa false
set_option linter.unusedSimpArgs false

theorem zero_64 (w : World) : (zeroValue 33).run Try.prog w = .ok (.agg (bA (zeros 64))) w := by kernel_rfl

/-- A row of its own on its way, over a world wb. -/
structure OwnAt (wb w : World) (v : Value) (bs : List Nat) : Prop where
  own : w.ownsRow wb.heap.size 5 1 v bs.length (bvals bs)
  bel : Below wb.heap.size wb w
  lt : ∀ c ∈ bs, c < 256

theorem OwnAt.made {wb : World} {bs : List Nat} (hb : ∀ c ∈ bs, c < 256) (hm : bs.length ≤ 1000000) : OwnAt wb (wb.alloc (Obj.cells (bA bs) 5)) (.slice (some ⟨wb.heap.size, 0, none⟩) bs.length bs.length) bs := by
  refine ⟨⟨by rw [bvals_length, Nat.mul_one], .inr ⟨wb.heap.size, bs.length, bA bs, rfl, Nat.le_refl _, heap_alloc_new wb _, Nat.le_refl _, by unfold maxLen; omega, by rw [bA_size, Nat.mul_one], ?_⟩⟩, below_alloc _ _, hb⟩
  rw [Nat.mul_one, List.take_of_length_le (by simp [bA, bvals_length])]
  rfl
theorem OwnAt.below {wb w w' : World} {v : Value} {bs : List Nat} (h : OwnAt wb w v bs) (hb : Below w.heap.size w w') : OwnAt wb w' v bs :=
  ⟨own_kept h.own (Kept.of_below (S := fun _ => False) hb) (fun _ _ h => h), h.bel.trans (hb.mono h.bel.size), h.lt⟩
theorem OwnAt.more {wb w w' : World} {v v' : Value} {bs ds : List Nat} (h : OwnAt wb w v bs) (hd : ∀ c ∈ ds, c < 256) (ho : w'.ownsRow wb.heap.size 5 1 v' (bs.length + ds.length) (bvals (bs ++ ds))) (hg : w.grownBy w' v.ownBlock) : OwnAt wb w' v' (bs ++ ds) := by
  refine ⟨by rw [List.length_append]; exact ho, h.bel.grown hg h.bel.size (fun g e => (h.own.lt g e).1), fun c hc => ?_⟩
  rcases List.mem_append.1 hc with h1 | h1
  · exact h.lt c h1
  · exact hd c h1

theorem row_fill (R : List Nat) (j : Nat) (hj : j < 64) (h : R.length = 64) : (R.take j ++ zeros (64 - j)).set j (R.getD j 0) = R.take (j + 1) ++ zeros (64 - (j + 1)) := by
  have hl : (R.take j).length = j := by rw [List.length_take, h]; omega
  rw [List.set_append_right _ _ (by omega), hl, Nat.sub_self, take_snoc_nat R j (by omega), List.append_assoc]
  congr 1
  have e : zeros (64 - j) = 0 :: zeros (64 - (j + 1)) := by
    unfold zeros; rw [show 64 - j = (64 - (j + 1)) + 1 by omega, List.replicate_succ]
  rw [e, List.set_cons_zero]
  rfl

end Go.Proofs.Ytajkajgnjcnolaa

/-
  Layer 3 (frame), eighth part: the document's Read.
-/
namespace Go.Proofs.Ytajkajgnjcnolaa
open Go.RowKit CrcM
set_option linter.unusedVariables false
set_option linter.unnecessarySimpa false
set_option linter.unusedSimpArgs false

section
variable {P : Program} {md : Region.Mode} {ops : Array Oper} {Q : Exit → Act → World → Prop} {S : World → Prop}

end

theorem run_slice_a64 (w : World) (g : Nat) :
    (Instr.sliceAt 33 (.pointer (some ⟨g, 0, none⟩)) none none none).run Try.prog w = .ok (.slice (some ⟨g, 0, none⟩) 64 64) w := by
  obtain ⟨i0, hi, hz0, hz1, hz2⟩ := info_parts Try.infoByte
  simp [Instr.sliceAt, Instr.sureAddr, Instr.sliceBounds, Instr.sliceBound, run_underlying Try.underlying33, asIntOf, sizeOf, typeInfo, hi, Addr.add]

theorem frA_setB (f : FrR) (j c : Nat) (hj : j < f.b.length) : (frA f).setIfInBounds (5 + j) (.int .u8 (c : Nat)) = frA { f with b := f.b.set j c } := by
  unfold frA frL
  rw [List.setIfInBounds_toArray, List.set_append_right _ _ (by simp), ← bvals_set]
  simp

theorem body_fill (R : List Nat) (j : Nat) (hj : j < 44) (h : R.length = 44) : (R.take j ++ zeros (44 - j)).set j (R.getD j 0) = R.take (j + 1) ++ zeros (44 - (j + 1)) := by
  have hl : (R.take j).length = j := by rw [List.length_take, h]; omega
  rw [List.set_append_right _ _ (by omega), hl, Nat.sub_self, take_snoc_nat R j (by omega), List.append_assoc]
  congr 1
  have e : zeros (44 - j) = 0 :: zeros (44 - (j + 1)) := by
    unfold zeros; rw [show 44 - j = (44 - (j + 1)) + 1 by omega, List.replicate_succ]
  rw [e, List.set_cons_zero]
  rfl

/-- A slice of a row of 64 bytes. -/
theorem row_mid {w : World} {g : Nat} {bs : List Nat} (h : RowB w (some ⟨g, 0, none⟩) 64 64 bs) (lo hi : Nat) (h1 : lo ≤ hi) (h2 : hi < 64) : RowB w (some ⟨g, lo, none⟩) (hi - lo) (64 - lo) ((bs.drop lo).take (hi - lo)) := by
  have h3 := (h.from lo (by omega)).to (hi - lo) (by omega)
  have e : slAddr (some ⟨g, 0, none⟩) 64 lo = some ⟨g, lo, none⟩ := by unfold slAddr; rw [if_neg (by omega)]; simp [Addr.add_mid]
  rw [e] at h3
  exact h3

/-- What the document's Read makes of a sector, but for its checks. -/
def rdoc (bs : List Nat) : FrR := ⟨(bs.getD 0 0 : Nat), (num ((bs.drop 2).take 2) : Nat), (num ((bs.drop 4).take 2) : Nat), (num ((bs.drop 6).take 4) : Nat), (num ((bs.drop 10).take 6) : Nat), (bs.drop 16).take 44⟩

theorem take_mid (bs : List Nat) (j k n : Nat) (h : j + k ≤ n) : (((bs.take n).drop j).take k) = (bs.drop j).take k := by
  rw [List.drop_take, List.take_take, Nat.min_eq_left (by omega)]
theorem num_single (bs : List Nat) (j : Nat) (h : j < bs.length) : num ((bs.drop j).take 1) = bs.getD j 0 := by
  rw [List.drop_eq_getElem_cons h]; simp only [List.take_succ_cons, List.take_zero, num]; simp [List.getD, h]
theorem rdoc_rd (bs : List Nat) (h : bs.length = 64) : rdoc bs = rd (bs.take 60) := by
  unfold rdoc rd
  rw [take_mid _ 0 1 60 (by decide), take_mid _ 2 2 60 (by decide), take_mid _ 4 2 60 (by decide), take_mid _ 6 4 60 (by decide), take_mid _ 10 6 60 (by decide), take_mid _ 16 44 60 (by decide), num_single bs 0 (by omega)]
theorem wrap_u32n (m : Nat) (h : m < 4294967296) : IntKind.i64.wrap (m : Int) = (m : Int) := by rw [IntKind.wrap_i64]; omega
theorem ver_doc (bs : List Nat) (h : bs.length = 64) : ver (bs.take 60) = bs.getD 1 0 := by
  unfold ver; rw [take_mid _ 1 1 60 (by decide), num_single bs 1 (by omega)]

end Go.Proofs.Ytajkajgnjcnolaa

/-
  Layer 3 (frame), tenth part: the laws' anchor; frames and sectors that are held against one another.
-/
namespace Go.Proofs.Ytajkajgnjcnolaa
open Go.RowKit CrcM
set_option linter.unusedVariables false
set_option linter.unnecessarySimpa false
set_option linter.unusedSimpArgs false

section
variable {P : Program} {w : World} {ops : Array Oper} {rest : List Oper} {o : Oper} {a : Act} {Q : Exit → Act → World → Prop}

theorem exec_eql_frame {t : TypeId} (T : FrameType P t) (x y : Operand) (rt : TypeId) (ho : o.op = .binOp .eql t x y rt) (f g : FrR) (hx : a.eval x = .agg (frA f)) (hy : a.eval y = .agg (frA g)) (hf : f.b.length = 44) (hg : g.b.length = 44) (b : Bool) (hb : decide (f = g) = b) :
    (execOp a.eval o).run P w = .ok (.value (.bool b)) w := by
  unfold execOp
  simp only [ho, hx, hy, Sem.run_bind, run_eqGuard_agg w .eql t x y (frA f) (frA g) T.guard, Result.andThen_ok, run_eql_frame T f g hf hg w, Sem.run_pure, hb]

theorem exec_neq_frame {t : TypeId} (T : FrameType P t) (x y : Operand) (rt : TypeId) (ho : o.op = .binOp .neq t x y rt) (f g : FrR) (hx : a.eval x = .agg (frA f)) (hy : a.eval y = .agg (frA g)) (hf : f.b.length = 44) (hg : g.b.length = 44) (b : Bool) (hb : (!decide (f = g)) = b) :
    (execOp a.eval o).run P w = .ok (.value (.bool b)) w := by
  unfold execOp
  simp only [ho, hx, hy, Sem.run_bind, run_eqGuard_agg w .neq t x y (frA f) (frA g) T.guard, Result.andThen_ok, run_neq_frame T f g hf hg w, Sem.run_pure, hb]

theorem exec_eql_sector {t : TypeId} {n : Nat} (T : BytesType P t n) (x y : Operand) (rt : TypeId) (ho : o.op = .binOp .eql t x y rt) (xs ys : List Nat) (hx : a.eval x = .agg (bA xs)) (hy : a.eval y = .agg (bA ys)) (hf : xs.length = n) (hg : ys.length = n) (b : Bool) (hb : decide (xs = ys) = b) :
    (execOp a.eval o).run P w = .ok (.value (.bool b)) w := by
  unfold execOp
  simp only [ho, hx, hy, Sem.run_bind, run_eqGuard_agg w .eql t x y (bA xs) (bA ys) T.guard, Result.andThen_ok, run_eql_sector T xs ys hf hg w, Sem.run_pure, hb]
end

theorem eq_self (f : FrR) : decide (f = f) = true := by simp
theorem neq_self (f : FrR) : (!decide (f = f)) = false := by simp

theorem zeros_sound : soundB (zeros 64) = false := by
  unfold soundB
  rw [decide_eq_false_iff_not]
  decide +kernel
/-- The anchor's frame. -/
def frM : FrR := ⟨3, 0, 0, 1, 0, zeros 44⟩
theorem dec_zero : decE (zeros 64) = 11 ∧ decF (zeros 64) = fr0 := by unfold decE decF; rw [zeros_sound]; simp

end Go.Proofs.Ytajkajgnjcnolaa

