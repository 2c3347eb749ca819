/-
  Layer 3 (frame), seventh part: the document's Bytes.
-/
import Derived.Test.YtdjnfikacjfkkaaFrameG
namespace Go.Proofs.Ytdjnfikacjfkkaa
open Go.RowKit CrcM
set_option linter.unusedVariables false
set_option linter.unnecessarySimpa false
set_option linter.unusedSimpArgs false

theorem rnumI (WD X : Int) (k x : Nat) (hWD : WD = k) (hX : X = x) (w : World) (hk : k ≤ 1000000) (hx : x < 9223372036854775808) :
    Calls Try.prog 25 #[.int .i64 WD, .int .i64 X] w (RNumPost (leb k x) w) := by
  subst hWD hX; exact rnum_any k x w hk hx

/-- A row of its own on its way, over a world wb. -/
structure OwnAt (wb w : World) (v : Value) (bs : List Nat) : Prop where
  own : w.ownsRow wb.heap.size 5 1 v bs.length (bvals bs)
  bel : Below wb.heap.size wb w
  lt : ∀ c ∈ bs, c < 256

theorem OwnAt.made {wb : World} {bs : List Nat} (hb : ∀ c ∈ bs, c < 256) (hm : bs.length ≤ 1000000) : OwnAt wb (wb.alloc (Obj.cells (bA bs) 5)) (.slice (some ⟨wb.heap.size, 0, none⟩) bs.length bs.length) bs := by
  refine ⟨⟨by rw [bvals_length, Nat.mul_one], .inr ⟨wb.heap.size, bs.length, bA bs, rfl, Nat.le_refl _, heap_alloc_new wb _, Nat.le_refl _, by unfold maxLen; omega, by rw [bA_size, Nat.mul_one], ?_⟩⟩, below_alloc _ _, hb⟩
  rw [Nat.mul_one, List.take_of_length_le (by simp [bA, bvals_length])]
  rfl
theorem OwnAt.below {wb w w' : World} {v : Value} {bs : List Nat} (h : OwnAt wb w v bs) (hb : Below w.heap.size w w') : OwnAt wb w' v bs :=
  ⟨own_kept h.own (Kept.of_below (S := fun _ => False) hb) (fun _ _ h => h), h.bel.trans (hb.mono h.bel.size), h.lt⟩
theorem OwnAt.more {wb w w' : World} {v v' : Value} {bs ds : List Nat} (h : OwnAt wb w v bs) (hd : ∀ c ∈ ds, c < 256) (ho : w'.ownsRow wb.heap.size 5 1 v' (bs.length + ds.length) (bvals (bs ++ ds))) (hg : w.grownBy w' v.ownBlock) : OwnAt wb w' v' (bs ++ ds) := by
  refine ⟨by rw [List.length_append]; exact ho, h.bel.grown hg h.bel.size (fun g e => (h.own.lt g e).1), fun c hc => ?_⟩
  rcases List.mem_append.1 hc with h1 | h1
  · exact h.lt c h1
  · exact hd c h1

/-- One append to it. -/
theorem wpl_more {w : World} {ops : Array Oper} {rest : List Oper} {o : Oper} {a : Act} {Q : Exit → Act → World → Prop} (hgd : o.guard = none) (s x : Operand)
    (ho : o.op = .call { callee := .builtin .append, args := #[s, x], argTypes := #[51, 51] }) (wb : World) (v : Value) (bs : List Nat) (hs : a.eval s = v) (hown : OwnAt wb w v bs)
    (sp : Option Addr) (m c : Nat) (ds : List Nat) (hx : a.eval x = .slice sp m c) (hrow : RowB w sp m c ds) (h63 : bs.length + m ≤ 1000000)
    (h : ∀ v' w', OwnAt wb w' v' (bs ++ ds) → wpList Try.prog ops Q rest (a.put o.dst v') w') : wpList Try.prog ops Q (o :: rest) a w := by
  have hl := hrow.length
  subst hl
  exact wpList_append_bytes hgd s x ho wb.heap.size v bs.length bs hs hown.own sp ds.length c ds hx hrow (by omega) hown.bel.size (fun v' w' h1 h2 => h v' w' (hown.more hrow.lt h1 h2))

theorem row_fill (R : List Nat) (j : Nat) (hj : j < 64) (h : R.length = 64) : (R.take j ++ zeros (64 - j)).set j (R.getD j 0) = R.take (j + 1) ++ zeros (64 - (j + 1)) := by
  have hl : (R.take j).length = j := by rw [List.length_take, h]; omega
  rw [List.set_append_right _ _ (by omega), hl, Nat.sub_self, take_snoc_nat R j (by omega), List.append_assoc]
  congr 1
  have e : zeros (64 - j) = 0 :: zeros (64 - (j + 1)) := by
    unfold zeros; rw [show 64 - j = (64 - (j + 1)) + 1 by omega, List.replicate_succ]
  rw [e, List.set_cons_zero]
  rfl

end Go.Proofs.Ytdjnfikacjfkkaa
