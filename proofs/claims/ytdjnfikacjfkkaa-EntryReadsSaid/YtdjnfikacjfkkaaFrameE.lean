/-
  Layer 3 (frame), fourth part: read.
-/
import Derived.Test.YtdjnfikacjfkkaaFrameD
namespace Go.Proofs.Ytdjnfikacjfkkaa
open Go.RowKit CrcM
set_option linter.unusedVariables false
set_option linter.unnecessarySimpa false
set_option linter.unusedSimpArgs false

/-- A reader that has come to byte j of bs; B: a bound of its blocks. -/
def RdF (B : Nat) (w : World) (r : Nat) (bs : List Nat) (j : Nat) : Prop := ∃ a cap, RdA w r a (bs.length - j) cap (bs.drop j) ∧ r < B ∧ ∀ ad, a = some ad → ad.block < B

theorem RdF.keep {S : Nat → Prop} {B r j : Nat} {bs : List Nat} {w w' : World} (h : RdF B w r bs j) (k : Kept S w w') (hS : ∀ i, i < B → ¬ S i) : RdF B w' r bs j := by
  obtain ⟨a, cap, ⟨h1, h2, h3⟩, h4, h5⟩ := h
  exact ⟨a, cap, ⟨h1.kept k (hS r h4), h2.kept k (fun _ ad he => hS _ (h5 ad he)), h3⟩, h4, h5⟩

/-- What Num tells of it. -/
def RdFTold (B r : Nat) (bs : List Nat) (j k : Nat) (w : World) (e : Ending) (w' : World) : Prop :=
  e = .returned (.int .i64 (num ((bs.drop j).take k) : Nat)) ∧ RdF B w' r bs (j + k) ∧ Kept (· = r) w w'

theorem rdF_num (K : Int) (B r : Nat) (bs : List Nat) (j k : Nat) (w : World) (hK : K = k) (h : RdF B w r bs j) (h1 : 1 ≤ k) (h7 : k ≤ 7) (hx : j + k ≤ bs.length) :
    Calls Try.prog 33 #[.pointer (some ⟨r, 0, none⟩), .int .i64 K] w (RdFTold B r bs j k w) := by
  subst hK
  obtain ⟨a, cap, hA, h4, h5⟩ := h
  refine (rdNum_ok r a (bs.length - j) cap (bs.drop j) k w hA h1 h7 (by omega)).mono ?_
  rintro e w' ⟨rfl, hA', hk⟩
  refine ⟨rfl, ⟨slAddr a cap k, cap - k, ?_, h4, fun ad had => ?_⟩, hk⟩
  · rw [List.drop_drop, show bs.length - j - k = bs.length - (j + k) by omega] at hA'
    exact hA'
  · obtain ⟨ad', e1, e2⟩ := slAddr_block a cap k ad had
    rw [← e2]; exact h5 ad' e1

/-- What Bytes tells of it. -/
def RdFGave (bs : List Nat) (j k r : Nat) (w : World) (e : Ending) (w' : World) : Prop :=
  ∃ a, e = .returned (.slice a k k) ∧ RowB w' a k k ((bs.drop j).take k) ∧ Kept (· = r) w w'

theorem rdF_bytes (K : Int) (B r : Nat) (bs : List Nat) (j k : Nat) (w : World) (hK : K = k) (h : RdF B w r bs j) (hx : j + k ≤ bs.length) :
    Calls Try.prog 34 #[.pointer (some ⟨r, 0, none⟩), .int .i64 K] w (RdFGave bs j k r w) := by
  obtain ⟨a, cap, hA, h4, h5⟩ := h
  refine (rdBytes_okI K r a (bs.length - j) cap (bs.drop j) k hK w hA (by omega)).mono ?_
  rintro e w' ⟨rfl, hA', hr, hk⟩
  exact ⟨_, rfl, hr, hk⟩

/-- What New tells. -/
theorem rdF_new (a : Option Addr) (len cap : Nat) (bs : List Nat) (w : World) (hr : RowB w a len cap bs) (hs : len ≤ 1000000000) :
    Calls Try.prog 32 #[.slice a len cap] w fun e w' => ∃ r, e = .returned (.pointer (some ⟨r, 0, none⟩)) ∧ w.heap.size ≤ r ∧ RdF w'.heap.size w' r bs 0 ∧ Below w.heap.size w w' := by
  refine (newRd_any a len cap bs w hr hs).mono ?_
  rintro e w' ⟨r, g, rfl, h1, h2, h3, h4, h5, h6⟩
  refine ⟨r, rfl, h1, ⟨some ⟨g, 0, none⟩, bs.length, ⟨?_, ?_, ?_⟩, h4.lt, ?_⟩, h6⟩
  · exact h4
  · exact row_of_blk h5 hr.lt _ rfl (by have := hr.length; omega)
  · intro ad had; cases had; exact h3
  · intro ad had; cases had; exact h5.lt

/-- The frame that stands ahead of a sum, right or not. -/
def rd (bs : List Nat) : FrR := ⟨(num ((bs.drop 0).take 1) : Nat), (num ((bs.drop 2).take 2) : Nat), (num ((bs.drop 4).take 2) : Nat), (num ((bs.drop 6).take 4) : Nat), (num ((bs.drop 10).take 6) : Nat), (bs.drop 16).take 44⟩
/-- Its version. -/
def ver (bs : List Nat) : Nat := num ((bs.drop 1).take 1)

theorem rd_len {bs : List Nat} (h : bs.length = 60) : (rd bs).b.length = 44 := by simp [rd, h]
theorem rd_lt {bs : List Nat} (h : ∀ c ∈ bs, c < 256) : ∀ c ∈ (rd bs).b, c < 256 := fun c hc => h c (List.mem_of_mem_drop (List.mem_of_mem_take hc))

theorem fr0_len : fr0.b.length = 44 := zeros_length 44
theorem frA_set0 (f : FrR) (x : Int) : (frA f).setIfInBounds 0 (.int .i64 x) = frA { f with k := x } := by simp [frA, frL]
theorem frA_set1 (f : FrR) (x : Int) : (frA f).setIfInBounds 1 (.int .i64 x) = frA { f with z := x } := by simp [frA, frL]
theorem frA_set2 (f : FrR) (x : Int) : (frA f).setIfInBounds 2 (.int .i64 x) = frA { f with o := x } := by simp [frA, frL]
theorem frA_set3 (f : FrR) (x : Int) : (frA f).setIfInBounds 3 (.int .i64 x) = frA { f with e := x } := by simp [frA, frL]
theorem frA_set4 (f : FrR) (x : Int) : (frA f).setIfInBounds 4 (.int .i64 x) = frA { f with s := x } := by simp [frA, frL]
theorem frL_body (f : FrR) (xs : List Nat) (hf : f.b.length = 44) (hx : xs.length = 44) : (splice (frL f) 5 (bvals xs)).toArray = frA { f with b := xs } := by
  unfold splice frA frL
  rw [List.take_append_of_le_length (by simp), List.drop_of_length_le (by simp [bvals_length, hf, hx])]
  simp

/-- What read tells. -/
def ReadPost (bs : List Nat) (w : World) (e : Ending) (w' : World) : Prop := e = .returned (.tuple #[.agg (frA (rd bs)), .int .i64 (ver bs : Nat)]) ∧ Below w.heap.size w w'

end Go.Proofs.Ytdjnfikacjfkkaa
