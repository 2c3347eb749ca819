/-
  What all layers' texts share: steps over structs and arrays that are read and written whole; steps of a region that draws its order.
-/
import Derived.Test.YtcdfolphbabaoaaProg
import Derived.Test.YtcdfolphbabaoaaBaseK
import Derived.WalkKit
import Derived.WalkSpells
import Derived.WalkLawsBesides
import Derived.Lib.Hide
import Derived.Deep.MidRow
import Derived.Deep.RegionHeld3
import Derived.Deep.RegionHeld
import Derived.OrdersHeld
import Derived.Deep.QuietTactic
import Derived.BigQuiet
import Derived.OpenShut
import Derived.Laws.StructEq
import Derived.ChangeKeysEq
import Derived.ChangeSame
import Derived.WideShapes
import Derived.Deep.Slices
import Derived.Lib.SlBytesConst
import Derived.Laws.BitsAllLaws
import Derived.Laws.CopyOwn
import Derived.IntWalk
import Derived.Deep.DeepCutAuto
import Derived.RegionTactic
import Derived.Deep.RegionWith
import Derived.Deep.Fields
namespace Go.Proofs.Ytcdfolphbabaoaa
open Go.RowKit
set_option linter.unusedVariables false
set_option linter.unnecessarySimpa false
set_option linter.unusedSimpArgs false

theorem ret_int {k : IntKind} {a b : Int} (h : a = b) : Ending.returned (.int k a) = .returned (.int k b) := by rw [h]
theorem ret_val {a b : Value} (h : a = b) : Ending.returned a = .returned b := by rw [h]
theorem ret_bool {a b : Bool} (h : a = b) : Ending.returned (.bool a) = .returned (.bool b) := by rw [h]
theorem below_alloc (w : World) (o : Obj) : Below w.heap.size w (w.alloc o) := (Below.refl _ _).alloc (Nat.le_refl _) _
theorem bthen {w w1 w2 : World} (h : Below w.heap.size w w1) (k : Below w1.heap.size w1 w2) : Below w.heap.size w w2 := h.trans (k.mono h.size)
/-- A call that leaves the world, or makes memory alone, keeps this. -/
theorem bel_next {wb w w' : World} (h : Below wb.heap.size wb w) (hb : Below w.heap.size w w') : Below wb.heap.size wb w' := h.trans (hb.mono h.size)
theorem setRow_new (w : World) (C D : Array Value) (t : TypeId) : (w.alloc (Obj.cells C t)).setRow w.heap.size D = w.alloc (Obj.cells D t) := by
  have hm : ∀ (a : Array Obj) (x : Obj) (f : Obj → Obj), (a.push x).modify a.size f = a.push (f x) := by
    intro a x f
    apply Array.ext
    · simp
    · intro i h1 h2
      simp only [Array.getElem_modify, Array.getElem_push]
      by_cases h : a.size = i
      · subst h; simp
      · have hi : i < a.size := by simp at h1; omega
        simp [h, hi]
  unfold World.setRow
  show ({ w.alloc (.cells C t) with heap := (w.heap.push (.cells C t)).modify w.heap.size _ } : World) = _
  rw [hm]
  rfl
/-- Is v from a to b? -/
def wB (v a b : Int) : Bool := decide (a ≤ v) && decide (v ≤ b)
theorem wB_iff (v a b : Int) : wB v a b = true ↔ a ≤ v ∧ v ≤ b := by simp [wB]

theorem Kept.setRow {S : Nat → Prop} {w0 w : World} (h : Kept S w0 w) {g : Nat} (hg : S g) (cs : Array Value) : Kept S w0 (w.setRow g cs) := by
  refine ⟨h.os, h.tape, h.output, ?_, fun k hk hn => ?_⟩
  · have := h.size; unfold World.setRow; simpa using this
  · rw [← h.block k hk hn]
    unfold World.setRow
    show (w.heap.modify g _)[k]? = w.heap[k]?
    rw [Array.getElem?_modify, if_neg (fun e => hn (by rw [← e]; exact hg))]
theorem Blk.setRow {w : World} {g : Nat} {t : TypeId} {old cs : Array Value} (h : Blk w g t old) : Blk (w.setRow g cs) g t cs := setRow_heap w g old cs t (0, 0) h
section
variable {P : Program} {w : World} {ops : Array Oper} {rest : List Oper} {o : Oper} {a : Act} {Q : Exit → Act → World → Prop}
/-- A struct or an array is read whole. -/
theorem wpl_load (hgd : o.guard = none) {ty : TypeId} (x : Operand) (ho : o.op = .load ty x) (g : Nat) (hx : a.eval x = .pointer (some ⟨g, 0, none⟩)) (t : TypeId) (cs : Array Value) (d : TypeDesc) (hg : Blk w g t cs)
    (hu : P.underlying ty = some d) (hd : (match d with | .struct _ | .array _ _ => true | _ => false) = true) (hi : (P.info? ty).map (·.size) = some cs.size)
    (h : wpList P ops Q rest (a.put o.dst (.agg cs)) w) : wpList P ops Q (o :: rest) a w :=
  wpList_load_row hgd ty x ho g hx t cs (0, 0) d hg hu hd hi h
/-- As above, where the operation has a guard that lets it be. -/
theorem wpl_load_g (hw : Region.wanted o (yielded ops a.tmps) = true) {ty : TypeId} (x : Operand) (ho : o.op = .load ty x) (g : Nat) (hx : a.eval x = .pointer (some ⟨g, 0, none⟩)) (t : TypeId) (cs : Array Value) (d : TypeDesc) (hg : Blk w g t cs)
    (hu : P.underlying ty = some d) (hd : (match d with | .struct _ | .array _ _ => true | _ => false) = true) (hi : (P.info? ty).map (·.size) = some cs.size)
    (h : wpList P ops Q rest (a.put o.dst (.agg cs)) w) : wpList P ops Q (o :: rest) a w := by
  unfold wpList
  rw [if_pos hw]
  exact .inl (wp_load_row ty x ho g hx t cs (0, 0) d hg hu hd hi h)
/-- A struct or an array is made of constants. -/
theorem wpl_build (hw : Region.wanted o (yielded ops a.tmps) = true) (ty : TypeId) (parts : Array (Nat × Operand)) (ho : o.op = .build ty parts) (v : Value) (hrun : ∀ w, (execOp a.eval o).run P w = .ok (.value v) w)
    (h : wpList P ops Q rest (a.put o.dst v) w) : wpList P ops Q (o :: rest) a w := by
  unfold wpList
  rw [if_pos hw]
  refine .inl ?_
  unfold Oper.wp
  rw [hrun w]
  exact h
/-- A struct or an array is written whole. -/
theorem wpl_store (hgd : o.guard = none) {ty : TypeId} (x y : Operand) (ho : o.op = .store ty x y) (g : Nat) (cs : Array Value) (hx : a.eval x = .pointer (some ⟨g, 0, none⟩)) (hy : a.eval y = .agg cs) (t : TypeId) (old : Array Value) (hg : Blk w g t old)
    (hi : (P.info? ty).map (·.size) = some cs.size) (hold : old.size = cs.size) (h1 : cs.all (·.oneCell') = true)
    (h : ∀ w', Blk w' g t cs → Kept (· = g) w w' → wpList P ops Q rest (a.put o.dst undef) w') : wpList P ops Q (o :: rest) a w :=
  wpList_store_row hgd ty x y ho g cs hx hy t old hg hi hold h1 (h _ (Blk.setRow hg) ((Kept.refl (· = g) w).setRow rfl cs))
/-- As above, into a block that was just made. -/
theorem wpl_store_new (hgd : o.guard = none) {ty : TypeId} (x y : Operand) (ho : o.op = .store ty x y) (cs : Array Value) (w0 : World) (t : TypeId) (old : Array Value) (hw : w = w0.alloc (.cells old t)) (hx : a.eval x = .pointer (some ⟨w0.heap.size, 0, none⟩)) (hy : a.eval y = .agg cs)
    (hi : (P.info? ty).map (·.size) = some cs.size) (hold : old.size = cs.size) (h1 : cs.all (·.oneCell') = true)
    (h : wpList P ops Q rest (a.put o.dst undef) (w0.alloc (.cells cs t))) : wpList P ops Q (o :: rest) a w := by
  subst hw
  refine wpList_store_row hgd ty x y ho w0.heap.size cs hx hy t old (heap_alloc_new w0 _) hi hold h1 ?_
  rwa [setRow_new]
/-- An operation that yields this value here. -/
theorem wpl_run (hw : Region.wanted o (yielded ops a.tmps) = true) (v : Value) (hrun : (execOp a.eval o).run P w = .ok (.value v) w) (h : wpList P ops Q rest (a.put o.dst v) w) : wpList P ops Q (o :: rest) a w := by
  unfold wpList
  rw [if_pos hw]
  refine .inl ?_
  unfold Oper.wp
  rw [hrun]
  exact h
end

/-- One operation of a region that yields in whatever world is taken first; its slot is told. -/
theorem take_one {P : Program} {md : Region.Mode} {ops : Array Oper} {Q : Exit → Act → World → Prop} {i d : Nat} {oi : Oper} {v : Value} {fuel : Nat} {listed : Array Bool} {a : Act} {w : World} (hi : ops[i]? = some oi) (hd : oi.dst = some d)
    (hs : Region.noSelect ops = true) (hf : Region.free md ops listed i = true) (hr : (Region.ready md ops listed).contains i = true)
    (hQ : ∀ c a w, Q (.panic c) (a.put oi.dst v) w → Q (.panic c) a w) (hy : Yields P ops oi v a)
    (h : wpAny P md ops Q fuel (listed.setIfInBounds i true) (a.put (some d) v) w) : wpAny P md ops Q (fuel + 1) listed a w :=
  wpAny_take hi hs hf hr hQ hy (by rw [hd]; exact h)
/-- One operation of a region that must come next. -/
theorem next_one {P : Program} {md : Region.Mode} {ops : Array Oper} {Q : Exit → Act → World → Prop} {i : Nat} {o : Oper} {fuel : Nat} {listed : Array Bool} {a : Act} {w : World} (ho : ops[i]? = some o)
    (hr : Region.ready md ops listed = [i]) (hw : Region.wanted o (yielded ops a.tmps) = true)
    (h : ∀ K' : Act → World → Prop, (∀ a w, wpAny P md ops Q fuel (listed.setIfInBounds i true) a w → K' a w) → Oper.wp P o a w K' Q) : wpAny P md ops Q (fuel + 1) listed a w :=
  wpAny_ready hr (by simp) (AllReady.cons ho (fun K' hK => by rw [if_pos hw]; exact h K' hK) AllReady.nil)
theorem results_cell_slot {P : Program} {fn : Func} {p q : Tmp} {ty : TypeId} (h : fn.results = #[.cell p ty, .tmp q]) (tmps : Array Value) (w : World) (g : Nat) (t : TypeId) (cs : Array Value) (v : Value) (d : TypeDesc)
    (hp : tmps.getD p undef = .pointer (some ⟨g, 0, none⟩)) (hq : tmps.getD q undef = v) (hg : Blk w g t cs)
    (hu : P.underlying ty = some d) (hd : (match d with | .struct _ | .array _ _ => true | _ => false) = true) (hi : (P.info? ty).map (·.size) = some cs.size) :
    (results fn tmps).run P w = .ok (.tuple #[.agg cs, v]) w := by
  have hp' : tmps[p]?.getD undef = .pointer (some ⟨g, 0, none⟩) := by simpa using hp
  have hq' : tmps[q]?.getD undef = v := by simpa using hq
  simp [results, h, hp', hq', asAddr, run_loadVar_row w g t ty cs (0, 0) d hg hu hd hi]

section
variable {P : Program} {md : Region.Mode} {ops : Array Oper} {Q : Exit → Act → World → Prop} {S : World → Prop}
/-- One operation of a region that yields in each world that meets S is taken first. -/
theorem takeH {i d : Nat} {oi : Oper} {v : Value} {fuel : Nat} {listed : Array Bool} {a : Act} {w : World} (hS : S w) (hi : ops[i]? = some oi) (hd : oi.dst = some d)
    (hs : Region.noSelect ops = true) (hf : Region.free md ops listed i = true) (hr : (Region.ready md ops listed).contains i = true)
    (hQ : ∀ c a w, Q (.panic c) (a.put oi.dst v) w → Q (.panic c) a w) (hy : YieldsIf P ops S oi v a)
    (h : wpAnyH P md ops Q S fuel (listed.setIfInBounds i true) (a.put (some d) v) w) : wpAnyH P md ops Q S (fuel + 1) listed a w :=
  wpAnyH_take hi hs hf hr hQ hy hS (by rw [hd]; exact h)
theorem wpOp_of {i : Nat} {o : Oper} {a : Act} {w : World} {K : Act → World → Prop} (ho : ops[i]? = some o) (hw : Region.wanted o (yielded ops a.tmps) = true) (h : ∀ K' : Act → World → Prop, (∀ a w, K a w → K' a w) → Oper.wp P o a w K' Q) : wpOp P ops Q i K a w := by
  refine wpOp_step ho (fun K' hK => ?_)
  rw [if_pos hw]
  exact h K' hK
/-- One operation of a region that must come next; S is shown anew behind it. -/
theorem nextH {i : Nat} {o : Oper} {fuel : Nat} {listed : Array Bool} {a : Act} {w : World} (ho : ops[i]? = some o)
    (hr : Region.ready md ops listed = [i]) (hw : Region.wanted o (yielded ops a.tmps) = true)
    (h : ∀ K' : Act → World → Prop, Shut (∀ a w, S w ∧ wpAnyH P md ops Q S fuel (listed.setIfInBounds i true) a w → K' a w) → Oper.wp P o a w K' Q) : wpAnyH P md ops Q S (fuel + 1) listed a w :=
  wpAnyH_all hr (by simp) (fun j hj => by
    obtain rfl : j = i := by simpa using hj
    exact wpOp_of ho hw h)
/-- Either of two. -/
theorem nextH2 {i k : Nat} {o o' : Oper} {fuel : Nat} {listed : Array Bool} {a : Act} {w : World} (ho : ops[i]? = some o) (ho' : ops[k]? = some o')
    (hr : Region.ready md ops listed = [i, k]) (hw : Region.wanted o (yielded ops a.tmps) = true) (hw' : Region.wanted o' (yielded ops a.tmps) = true)
    (h : ∀ K' : Act → World → Prop, Shut (∀ a w, S w ∧ wpAnyH P md ops Q S fuel (listed.setIfInBounds i true) a w → K' a w) → Oper.wp P o a w K' Q)
    (h' : ∀ K' : Act → World → Prop, Shut (∀ a w, S w ∧ wpAnyH P md ops Q S fuel (listed.setIfInBounds k true) a w → K' a w) → Oper.wp P o' a w K' Q) : wpAnyH P md ops Q S (fuel + 1) listed a w :=
  wpAnyH_all hr (by simp) (fun j hj => by
    have hj' : j = i ∨ j = k := by simpa using hj
    rcases hj' with rfl | rfl
    · exact wpOp_of ho hw h
    · exact wpOp_of ho' hw' h')
/-- A region whose ends are one frame: what follows is walked once. -/
theorem region_cut {id : Nat} {b : Bool} {a : Act} {w : World} (af : Act) (R : World → Prop) (h : (∀ w', R w' → Q .normal af w') → (Code.region id ops b).wp P Q a w) (h' : ∀ w', R w' → Q .normal af w') : (Code.region id ops b).wp P Q a w := h h'
/-- A load, run. -/
theorem exec_load {o : Oper} {a : Act} {w : World} {ty : TypeId} (x : Operand) (ho : o.op = .load ty x) (g : Nat) (hx : a.eval x = .pointer (some ⟨g, 0, none⟩)) {t : TypeId} {cs : Array Value} {d : TypeDesc} (hg : Blk w g t cs)
    (hu : P.underlying ty = some d) (hd : (match d with | .struct _ | .array _ _ => true | _ => false) = true) (hi : (P.info? ty).map (·.size) = some cs.size) : (execOp a.eval o).run P w = .ok (.value (.agg cs)) w := by
  unfold execOp
  simp only [ho, hx, Instr.loadAt, Instr.sureAddr, Sem.run_bind, Sem.run_pure, Result.andThen_ok, run_loadVar_row w g t ty cs (0, 0) d hg hu hd hi]
end

section
variable {P : Program} {o : Oper} {a : Act} {w : World}

theorem run_guard_int (w : World) (op : BinOp) (t : TypeId) (x y : Operand) (k k' : IntKind) (i j : Int) : (eqGuard op t x y (.int k i) (.int k' j)).run P w = .ok () w := by
  cases op <;> simp [eqGuard]

/-- What two ints give. -/
theorem exec_bin {op : BinOp} {ty rt : TypeId} (x y : Operand) (ho : o.op = .binOp op ty x y rt) {k k' : IntKind} (i j : Int) (hx : a.eval x = .int k i) (hy : a.eval y = .int k' j) {v : Value} (hr : (binOp op ty (.int k i) (.int k' j)).run P w = .ok v w) :
    (execOp a.eval o).run P w = .ok (.value v) w := by
  unfold execOp
  simp only [ho, hx, hy, Sem.run_bind, run_guard_int, Result.andThen_ok, hr, Sem.run_pure]

theorem exec_add {ty rt : TypeId} (x y : Operand) (ho : o.op = .binOp .add ty x y rt) (i j k : Int) (hx : a.eval x = .int .i64 i) (hy : a.eval y = .int .i64 j) (h : i + j = k) (hk : -9223372036854775808 ≤ k ∧ k ≤ 9223372036854775807) :
    (execOp a.eval o).run P w = .ok (.value (.int .i64 k)) w := by
  subst h
  refine exec_bin x y ho i j hx hy ?_
  rw [binOp_add]; simp only [Op.intArith, Sem.run_pure, IntWalk.i64_in _ hk]
theorem exec_sub {ty rt : TypeId} (x y : Operand) (ho : o.op = .binOp .sub ty x y rt) (i j k : Int) (hx : a.eval x = .int .i64 i) (hy : a.eval y = .int .i64 j) (h : i - j = k) (hk : -9223372036854775808 ≤ k ∧ k ≤ 9223372036854775807) :
    (execOp a.eval o).run P w = .ok (.value (.int .i64 k)) w := by
  subst h
  refine exec_bin x y ho i j hx hy ?_
  rw [binOp_sub]; simp only [Op.intArith, Sem.run_pure, IntWalk.i64_in _ hk]
theorem exec_mul {ty rt : TypeId} (x y : Operand) (ho : o.op = .binOp .mul ty x y rt) (i j k : Int) (hx : a.eval x = .int .i64 i) (hy : a.eval y = .int .i64 j) (h : i * j = k) (hk : -9223372036854775808 ≤ k ∧ k ≤ 9223372036854775807) :
    (execOp a.eval o).run P w = .ok (.value (.int .i64 k)) w := by
  subst h
  refine exec_bin x y ho i j hx hy ?_
  rw [binOp_mul]; simp only [Op.intArith, Sem.run_pure, IntWalk.i64_in _ hk]
/-- A shift to the right by a constant. -/
theorem exec_shr {ty rt : TypeId} (x y : Operand) (ho : o.op = .binOp .shr ty x y rt) (i k : Int) (n : Nat) {q : IntKind} (hx : a.eval x = .int .i64 i) (hy : a.eval y = .int q n) (hn : n ≤ 64) (h : i.fdiv (2 ^ n) = k) :
    (execOp a.eval o).run P w = .ok (.value (.int .i64 k)) w := by
  subst h
  refine exec_bin x y ho i n hx hy ?_
  have e : min (n : Int).toNat IntKind.i64.bits = n := by rw [Int.toNat_natCast]; exact Nat.min_eq_left hn
  rw [binOp_shr]; simp only [Op.shift, if_neg (show ¬ ((n : Int) < 0) by omega), Sem.run_pure, e]
/-- A quotient of a number that isn't below nought. -/
theorem exec_quo {ty rt : TypeId} (x y : Operand) (ho : o.op = .binOp .quo ty x y rt) (i j k : Int) (hx : a.eval x = .int .i64 i) (hy : a.eval y = .int .i64 j) (hi : 0 ≤ i ∧ i ≤ 9223372036854775807) (hj : 1 ≤ j) (h : i / j = k) :
    (execOp a.eval o).run P w = .ok (.value (.int .i64 k)) w := by
  subst h
  refine exec_bin x y ho i j hx hy ?_
  rw [binOp_quo]; simp only [Op.intDiv, if_neg (show ¬ j = 0 by omega), Sem.run_pure, IntWalk.i64_quo i j ⟨hi.1, hi.2, hj⟩]
theorem exec_lss {ty rt : TypeId} (x y : Operand) (ho : o.op = .binOp .lss ty x y rt) {q q' : IntKind} (i j : Int) (hx : a.eval x = .int q i) (hy : a.eval y = .int q' j) (b : Bool) (h : decide (i < j) = b) (hq : q = q') : (execOp a.eval o).run P w = .ok (.value (.bool b)) w := by
  subst h hq
  exact exec_bin x y ho i j hx hy (by rw [binOp_lss]; rfl)
theorem exec_leq {ty rt : TypeId} (x y : Operand) (ho : o.op = .binOp .leq ty x y rt) {q q' : IntKind} (i j : Int) (hx : a.eval x = .int q i) (hy : a.eval y = .int q' j) (b : Bool) (h : decide (i ≤ j) = b) (hq : q = q') : (execOp a.eval o).run P w = .ok (.value (.bool b)) w := by
  subst h hq
  exact exec_bin x y ho i j hx hy (by rw [binOp_leq]; rfl)
theorem exec_gtr {ty rt : TypeId} (x y : Operand) (ho : o.op = .binOp .gtr ty x y rt) {q q' : IntKind} (i j : Int) (hx : a.eval x = .int q i) (hy : a.eval y = .int q' j) (b : Bool) (h : decide (i > j) = b) (hq : q = q') : (execOp a.eval o).run P w = .ok (.value (.bool b)) w := by
  subst h hq
  exact exec_bin x y ho i j hx hy (by rw [binOp_gtr]; rfl)
theorem exec_geq {ty rt : TypeId} (x y : Operand) (ho : o.op = .binOp .geq ty x y rt) {q q' : IntKind} (i j : Int) (hx : a.eval x = .int q i) (hy : a.eval y = .int q' j) (b : Bool) (h : decide (i ≥ j) = b) (hq : q = q') : (execOp a.eval o).run P w = .ok (.value (.bool b)) w := by
  subst h hq
  exact exec_bin x y ho i j hx hy (by rw [binOp_geq]; rfl)
theorem exec_eql {ty rt : TypeId} (x y : Operand) (ho : o.op = .binOp .eql ty x y rt) {q q' : IntKind} (i j : Int) (hx : a.eval x = .int q i) (hy : a.eval y = .int q' j) (b : Bool) (h : decide (i = j) = b) (hq : q = q') : (execOp a.eval o).run P w = .ok (.value (.bool b)) w := by
  subst h hq
  exact exec_bin x y ho i j hx hy (by rw [binOp_eql]; rfl)
theorem exec_neq {ty rt : TypeId} (x y : Operand) (ho : o.op = .binOp .neq ty x y rt) {q q' : IntKind} (i j : Int) (hx : a.eval x = .int q i) (hy : a.eval y = .int q' j) (b : Bool) (h : (!decide (i = j)) = b) (hq : q = q') : (execOp a.eval o).run P w = .ok (.value (.bool b)) w := by
  subst h hq
  exact exec_bin x y ho i j hx hy (by rw [binOp_neq]; rfl)

/-- A cell that is read. -/
theorem exec_cell {ty : TypeId} (x : Operand) (ho : o.op = .load ty x) (p : Addr) (hx : a.eval x = .pointer (some p)) {k k' : IntKind} (z : Int) (hu : P.underlying ty = some (.int k')) (hc : w.cell? p = some (.int k z)) : (execOp a.eval o).run P w = .ok (.value (.int k z)) w := by
  unfold execOp
  have ha : (isAgg ty).run P w = .ok false w := by simp [isAgg, run_underlying hu]
  simp only [ho, hx, Instr.loadAt, Instr.sureAddr, Sem.run_bind, Sem.run_pure, Result.andThen_ok, loadVar, ha]
  simp [hc]
end

end Go.Proofs.Ytcdfolphbabaoaa
