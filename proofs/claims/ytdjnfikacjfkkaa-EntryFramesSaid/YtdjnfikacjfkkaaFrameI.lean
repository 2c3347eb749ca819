/-
  Layer 3 (frame), eighth part: the document's Read.
-/
import Derived.Test.YtdjnfikacjfkkaaFrameH
import Derived.OrdersHeld
import Derived.Deep.RegionHeld
namespace Go.Proofs.Ytdjnfikacjfkkaa
open Go.RowKit CrcM
set_option linter.unusedVariables false
set_option linter.unnecessarySimpa false
set_option linter.unusedSimpArgs false

section
variable {P : Program} {md : Region.Mode} {ops : Array Oper} {Q : Exit → Act → World → Prop} {S : World → Prop}

/-- One operation of a region that yields in each world that meets S is taken first. -/
theorem takeH {i d : Nat} {oi : Oper} {v : Value} {fuel : Nat} {listed : Array Bool} {a : Act} {w : World} (hS : S w) (hi : ops[i]? = some oi) (hd : oi.dst = some d)
    (hs : Region.noSelect ops = true) (hf : Region.free md ops listed i = true) (hr : (Region.ready md ops listed).contains i = true)
    (hQ : ∀ c a w, Q (.panic c) (a.put oi.dst v) w → Q (.panic c) a w) (hy : YieldsIf P ops S oi v a)
    (h : wpAnyH P md ops Q S fuel (listed.setIfInBounds i true) (a.put (some d) v) w) : wpAnyH P md ops Q S (fuel + 1) listed a w :=
  wpAnyH_take hi hs hf hr hQ hy hS (by rw [hd]; exact h)

theorem wpOp_of {i : Nat} {o : Oper} {a : Act} {w : World} {K : Act → World → Prop} (ho : ops[i]? = some o) (hw : Region.wanted o (yielded ops a.tmps) = true) (h : ∀ K' : Act → World → Prop, (∀ a w, K a w → K' a w) → Oper.wp P o a w K' Q) : wpOp P ops Q i K a w := by
  refine wpOp_step ho (fun K' hK => ?_)
  rw [if_pos hw]
  exact h K' hK

/-- One operation of a region that must come next; S is shown anew behind it. -/
theorem nextH {i : Nat} {o : Oper} {fuel : Nat} {listed : Array Bool} {a : Act} {w : World} (ho : ops[i]? = some o)
    (hr : Region.ready md ops listed = [i]) (hw : Region.wanted o (yielded ops a.tmps) = true)
    (h : ∀ K' : Act → World → Prop, Shut (∀ a w, S w ∧ wpAnyH P md ops Q S fuel (listed.setIfInBounds i true) a w → K' a w) → Oper.wp P o a w K' Q) : wpAnyH P md ops Q S (fuel + 1) listed a w :=
  wpAnyH_all hr (by simp) (fun j hj => by
    obtain rfl : j = i := by simpa using hj
    exact wpOp_of ho hw h)

/-- Either of two. -/
theorem nextH2 {i k : Nat} {o o' : Oper} {fuel : Nat} {listed : Array Bool} {a : Act} {w : World} (ho : ops[i]? = some o) (ho' : ops[k]? = some o')
    (hr : Region.ready md ops listed = [i, k]) (hw : Region.wanted o (yielded ops a.tmps) = true) (hw' : Region.wanted o' (yielded ops a.tmps) = true)
    (h : ∀ K' : Act → World → Prop, Shut (∀ a w, S w ∧ wpAnyH P md ops Q S fuel (listed.setIfInBounds i true) a w → K' a w) → Oper.wp P o a w K' Q)
    (h' : ∀ K' : Act → World → Prop, Shut (∀ a w, S w ∧ wpAnyH P md ops Q S fuel (listed.setIfInBounds k true) a w → K' a w) → Oper.wp P o' a w K' Q) : wpAnyH P md ops Q S (fuel + 1) listed a w :=
  wpAnyH_all hr (by simp) (fun j hj => by
    have hj' : j = i ∨ j = k := by simpa using hj
    rcases hj' with rfl | rfl
    · exact wpOp_of ho hw h
    · exact wpOp_of ho' hw' h')

/-- A region whose ends are one frame: what follows is walked once. -/
theorem region_cut {id : Nat} {b : Bool} {a : Act} {w : World} (af : Act) (R : World → Prop) (h : (∀ w', R w' → Q .normal af w') → (Code.region id ops b).wp P Q a w) (h' : ∀ w', R w' → Q .normal af w') : (Code.region id ops b).wp P Q a w := h h'

/-- A load, run. -/
theorem exec_load {o : Oper} {a : Act} {w : World} {ty : TypeId} (x : Operand) (ho : o.op = .load ty x) (g : Nat) (hx : a.eval x = .pointer (some ⟨g, 0, none⟩)) {t : TypeId} {cs : Array Value} {d : TypeDesc} (hg : Blk w g t cs)
    (hu : P.underlying ty = some d) (hd : (match d with | .struct _ | .array _ _ => true | _ => false) = true) (hi : (P.info? ty).map (·.size) = some cs.size) : (execOp a.eval o).run P w = .ok (.value (.agg cs)) w := by
  unfold execOp
  simp only [ho, hx, Instr.loadAt, Instr.sureAddr, Sem.run_bind, Sem.run_pure, Result.andThen_ok, run_loadVar_row w g t ty cs (0, 0) d hg hu hd hi]

end

/-- A call that leaves the world, or makes memory alone, keeps this. -/
theorem bel_next {wb w w' : World} (h : Below wb.heap.size wb w) (hb : Below w.heap.size w w') : Below wb.heap.size wb w' := h.trans (hb.mono h.size)

theorem zero_rf (w : World) : (zeroValue 44).run Try.prog w = .ok (.agg (frA fr0)) w := by kernel_rfl

theorem frA_setB (f : FrR) (j c : Nat) (hj : j < f.b.length) : (frA f).setIfInBounds (5 + j) (.int .u8 (c : Nat)) = frA { f with b := f.b.set j c } := by
  unfold frA frL
  rw [List.setIfInBounds_toArray, List.set_append_right _ _ (by simp), ← bvals_set]
  simp

theorem body_fill (R : List Nat) (j : Nat) (hj : j < 44) (h : R.length = 44) : (R.take j ++ zeros (44 - j)).set j (R.getD j 0) = R.take (j + 1) ++ zeros (44 - (j + 1)) := by
  have hl : (R.take j).length = j := by rw [List.length_take, h]; omega
  rw [List.set_append_right _ _ (by omega), hl, Nat.sub_self, take_snoc_nat R j (by omega), List.append_assoc]
  congr 1
  have e : zeros (44 - j) = 0 :: zeros (44 - (j + 1)) := by
    unfold zeros; rw [show 44 - j = (44 - (j + 1)) + 1 by omega, List.replicate_succ]
  rw [e, List.set_cons_zero]
  rfl

/-- A slice of a row of 64 bytes. -/
theorem row_mid {w : World} {g : Nat} {bs : List Nat} (h : RowB w (some ⟨g, 0, none⟩) 64 64 bs) (lo hi : Nat) (h1 : lo ≤ hi) (h2 : hi < 64) : RowB w (some ⟨g, lo, none⟩) (hi - lo) (64 - lo) ((bs.drop lo).take (hi - lo)) := by
  have h3 := (h.from lo (by omega)).to (hi - lo) (by omega)
  have e : slAddr (some ⟨g, 0, none⟩) 64 lo = some ⟨g, lo, none⟩ := by unfold slAddr; rw [if_neg (by omega)]; simp [Addr.add_mid]
  rw [e] at h3
  exact h3

/-- What the document's Read makes of a sector, but for its checks. -/
def rdoc (bs : List Nat) : FrR := ⟨(bs.getD 0 0 : Nat), (num ((bs.drop 2).take 2) : Nat), (num ((bs.drop 4).take 2) : Nat), (num ((bs.drop 6).take 4) : Nat), (num ((bs.drop 10).take 6) : Nat), (bs.drop 16).take 44⟩

theorem take_mid (bs : List Nat) (j k n : Nat) (h : j + k ≤ n) : (((bs.take n).drop j).take k) = (bs.drop j).take k := by
  rw [List.drop_take, List.take_take, Nat.min_eq_left (by omega)]
theorem num_single (bs : List Nat) (j : Nat) (h : j < bs.length) : num ((bs.drop j).take 1) = bs.getD j 0 := by
  rw [List.drop_eq_getElem_cons h]; simp only [List.take_succ_cons, List.take_zero, num]; simp [List.getD, h]
theorem rdoc_rd (bs : List Nat) (h : bs.length = 64) : rdoc bs = rd (bs.take 60) := by
  unfold rdoc rd
  rw [take_mid _ 0 1 60 (by decide), take_mid _ 2 2 60 (by decide), take_mid _ 4 2 60 (by decide), take_mid _ 6 4 60 (by decide), take_mid _ 10 6 60 (by decide), take_mid _ 16 44 60 (by decide), num_single bs 0 (by omega)]
theorem wrap_u32n (m : Nat) (h : m < 4294967296) : IntKind.i64.wrap (m : Int) = (m : Int) := by rw [IntKind.wrap_i64]; omega
theorem ver_doc (bs : List Nat) (h : bs.length = 64) : ver (bs.take 60) = bs.getD 1 0 := by
  unfold ver; rw [take_mid _ 1 1 60 (by decide), num_single bs 1 (by omega)]

end Go.Proofs.Ytdjnfikacjfkkaa
