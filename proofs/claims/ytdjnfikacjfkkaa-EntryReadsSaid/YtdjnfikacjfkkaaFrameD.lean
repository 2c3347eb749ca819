/-
  Layer 3 (frame), third part: Encode.
-/
import Derived.Test.YtdjnfikacjfkkaaFrameC
import Derived.Test.YtdjnfikacjfkkaaCrcG
namespace Go.Proofs.Ytdjnfikacjfkkaa
open Go.RowKit CrcM
set_option linter.unusedVariables false
set_option linter.unnecessarySimpa false
set_option linter.unusedSimpArgs false

/-- The empty frame. -/
def fr0 : FrR := ⟨0, 0, 0, 0, 0, zeros 44⟩
theorem zero_fr (w : World) : (zeroValue 41).run Try.prog w = .ok (.agg (frA fr0)) w := by kernel_rfl

/-- One operation of a region that yields in whatever world is taken first; its slot is told. -/
theorem take_one {P : Program} {md : Region.Mode} {ops : Array Oper} {Q : Exit → Act → World → Prop} {i d : Nat} {oi : Oper} {v : Value} {fuel : Nat} {listed : Array Bool} {a : Act} {w : World} (hi : ops[i]? = some oi) (hd : oi.dst = some d)
    (hs : Region.noSelect ops = true) (hf : Region.free md ops listed i = true) (hr : (Region.ready md ops listed).contains i = true)
    (hQ : ∀ c a w, Q (.panic c) (a.put oi.dst v) w → Q (.panic c) a w) (hy : Yields P ops oi v a)
    (h : wpAny P md ops Q fuel (listed.setIfInBounds i true) (a.put (some d) v) w) : wpAny P md ops Q (fuel + 1) listed a w :=
  wpAny_take hi hs hf hr hQ hy (by rw [hd]; exact h)

/-- One operation of a region that must come next. -/
theorem next_one {P : Program} {md : Region.Mode} {ops : Array Oper} {Q : Exit → Act → World → Prop} {i : Nat} {o : Oper} {fuel : Nat} {listed : Array Bool} {a : Act} {w : World} (ho : ops[i]? = some o)
    (hr : Region.ready md ops listed = [i]) (hw : Region.wanted o (yielded ops a.tmps) = true)
    (h : ∀ K' : Act → World → Prop, (∀ a w, wpAny P md ops Q fuel (listed.setIfInBounds i true) a w → K' a w) → Oper.wp P o a w K' Q) : wpAny P md ops Q (fuel + 1) listed a w :=
  wpAny_ready hr (by simp) (AllReady.cons ho (fun K' hK => by rw [if_pos hw]; exact h K' hK) AllReady.nil)

/-- What Encode tells of a frame that may not be. -/
def EncErr (w : World) (e : Ending) (w' : World) : Prop := e = .returned (.tuple #[.agg (bA (zeros 64)), .int .i64 10]) ∧ Below w.heap.size w w'
/-- .. of one that may. -/
def EncOk (f : FrR) (w : World) (e : Ending) (w' : World) : Prop := e = .returned (.tuple #[.agg (bA (sec f)), .int .i64 0]) ∧ Below w.heap.size w w'

theorem results_cell_slot {P : Program} {fn : Func} {p q : Tmp} {ty : TypeId} (h : fn.results = #[.cell p ty, .tmp q]) (tmps : Array Value) (w : World) (g : Nat) (t : TypeId) (cs : Array Value) (v : Value) (d : TypeDesc)
    (hp : tmps.getD p undef = .pointer (some ⟨g, 0, none⟩)) (hq : tmps.getD q undef = v) (hg : Blk w g t cs)
    (hu : P.underlying ty = some d) (hd : (match d with | .struct _ | .array _ _ => true | _ => false) = true) (hi : (P.info? ty).map (·.size) = some cs.size) :
    (results fn tmps).run P w = .ok (.tuple #[.agg cs, v]) w := by
  have hp' : tmps[p]?.getD undef = .pointer (some ⟨g, 0, none⟩) := by simpa using hp
  have hq' : tmps[q]?.getD undef = v := by simpa using hq
  simp [results, h, hp', hq', asAddr, run_loadVar_row w g t ty cs (0, 0) d hg hu hd hi]

theorem splice_full {xs zs : List Nat} {n : Nat} (h : xs.length = n) (hz : zs.length = n) : (splice (bvals zs) 0 (bvals (xs.take n))).toArray = bA xs := by
  unfold splice bA
  rw [List.take_of_length_le (l := xs) (by omega), List.take_zero, List.nil_append, List.drop_of_length_le (by rw [bvals_length, bvals_length]; omega), List.append_nil]

end Go.Proofs.Ytdjnfikacjfkkaa
