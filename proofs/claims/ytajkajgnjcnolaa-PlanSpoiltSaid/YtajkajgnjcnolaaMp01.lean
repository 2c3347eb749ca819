import Derived.KernelRfl
import Derived.WalkKit
import Derived.BigQuiet
import Derived.Deep.QuietTactic
import Derived.WalkSmall
import Derived.Lib.Hide
import Derived.Test.YtajkajgnjcnolaaProg
import Derived.WalkSpells
import Derived.WalkLawsBesides
import Derived.Deep.MidRow
import Derived.Deep.RegionHeld3
import Derived.Deep.RegionHeld
import Derived.OrdersHeld
import Derived.OpenShut
import Derived.Laws.StructEq
import Derived.ChangeKeysEq
import Derived.ChangeSame
import Derived.WideShapes
import Derived.Deep.Slices
import Derived.Lib.SlBytesConst
import Derived.Laws.BitsAllLaws
import Derived.Laws.CopyOwn
import Derived.IntWalk
import Derived.Deep.DeepCutAuto
import Derived.RegionTactic
import Derived.Deep.RegionWith
import Derived.Deep.Fields
import Derived.Laws.AppendOwnNone
import Derived.Maps.AppendAt
import Derived.Maps.OwnSet
namespace Go.Proofs.Ytajkajgnjcnolaa.CrcM
def poly : Nat := 2197175160
def hv (r : Nat) : Nat := if r % 2 = 1 then (r / 2) ^^^ poly else r / 2
def num : List Nat → Nat
  | [] => 0
  | c :: b => c + 256 * num b
end Go.Proofs.Ytajkajgnjcnolaa.CrcM

namespace Go.Proofs.Ytajkajgnjcnolaa.CrcM
set_option linter.unusedVariables false
set_option linter.unnecessarySimpa false
theorem set_lt {b : List Nat} {i x : Nat} (h : ∀ c ∈ b, c < 256) (hx : x < 256) : ∀ c ∈ b.set i x, c < 256 := by
  intro c hc
  rcases List.mem_or_eq_of_mem_set hc with h1 | h1
  · exact h c h1
  · omega
def leb (k s : Nat) : List Nat := (List.range k).map fun i => s / 2 ^ (8 * i) % 256
end Go.Proofs.Ytajkajgnjcnolaa.CrcM

namespace Go.Proofs.Ytajkajgnjcnolaa
open Go.RowKit
set_option linter.unusedVariables false
structure Kept (S : Nat → Prop) (w w' : World) : Prop where
  os : w'.os = w.os
  tape : w'.tape = w.tape
  output : w'.output = w.output
  size : w.heap.size ≤ w'.heap.size
  block : ∀ k, k < w.heap.size → ¬ S k → w'.heap[k]? = w.heap[k]?
section
variable {S T U : Nat → Prop} {w w' a b c : World}
theorem Kept.refl (S : Nat → Prop) (w : World) : Kept S w w := ⟨rfl, rfl, rfl, Nat.le_refl _, fun _ _ _ => rfl⟩
theorem Kept.andThen (h : Kept S a b) (k : Kept T b c) (hs : ∀ i, i < a.heap.size → S i → U i) (ht : ∀ i, i < a.heap.size → T i → U i) : Kept U a c :=
  ⟨k.os.trans h.os, k.tape.trans h.tape, k.output.trans h.output, Nat.le_trans h.size k.size,
    fun i hi hu => (k.block i (Nat.lt_of_lt_of_le hi h.size) (fun t => hu (ht i hi t))).trans (h.block i hi (fun s => hu (hs i hi s)))⟩
theorem Kept.trans (h : Kept S a b) (k : Kept S b c) : Kept S a c := h.andThen k (fun _ _ h => h) (fun _ _ h => h)
theorem Kept.mono (h : Kept S a b) (hs : ∀ i, i < a.heap.size → S i → U i) : Kept U a b := h.andThen (Kept.refl U b) hs (fun _ _ h => h)
theorem Kept.of_below (h : Below w.heap.size w w') : Kept S w w' := ⟨h.os, h.tape, h.output, h.size, fun k hk _ => h.block k hk⟩
theorem Kept.below {B : Nat} (h : Kept S w w') (hB : B ≤ w.heap.size) (hs : ∀ k, k < B → ¬ S k) : Below B w w' :=
  ⟨h.os, h.tape, h.output, h.size, fun k hk => h.block k (Nat.lt_of_lt_of_le hk hB) (hs k hk)⟩
theorem bkept {B : Nat} (h : Below B a b) (hB : B ≤ a.heap.size) (k : Kept S b c) (hn : ∀ i, i < B → ¬ S i) : Below B a c :=
  h.trans (k.below (Nat.le_trans hB h.size) hn)
theorem Kept.setCell (h : Kept S a w) {p : Addr} (hp : S p.block) (u : Value) : Kept S a (w.setCell p u) :=
  ⟨h.os, h.tape, h.output, by have := h.size; simpa [World.setCell] using this, fun k hk hn => (Below.heap_setCell _ _ _ _ (fun e => hn (by rw [e]; exact hp))).trans (h.block k hk hn)⟩
theorem Kept.alloc (h : Kept S a w) (o : Obj) : Kept S a (w.alloc o) := h.andThen (Kept.of_below (S := S) ((Below.refl _ _).alloc (Nat.le_refl _) o)) (fun _ _ h => h) (fun _ _ h => h)
theorem Kept.drew (h : Kept S a w) : Kept S a w.drew := ⟨h.os, h.tape, h.output, h.size, h.block⟩
theorem Kept.grown {row : Option Nat} (h : Kept S a w) (hg : w.grownBy w' row) (hr : ∀ g, row = some g → S g) : Kept S a w' :=
  h.andThen (T := S) ⟨hg.os, hg.tape, hg.output, hg.size, fun k hk hn => hg.block k hk (fun e => hn (hr k e.symm))⟩ (fun _ _ h => h) (fun _ _ h => h)
end
def Blk (w : World) (g : Nat) (t : TypeId) (cs : Array Value) : Prop := w.heap[g]? = some (.cells cs t (0, 0))
section
variable {S : Nat → Prop} {w w' : World} {g : Nat} {t : TypeId} {cs : Array Value}
theorem Blk.lt (h : Blk w g t cs) : g < w.heap.size := by
  by_cases hl : g < w.heap.size
  · exact hl
  · unfold Blk at h; rw [Array.getElem?_eq_none (by omega)] at h; cases h
theorem Blk.cell (h : Blk w g t cs) (i : Nat) : w.cell? ⟨g, i, none⟩ = cs[i]? := cell_of_row w g i cs t (0, 0) h
theorem Blk.frozen (h : Blk w g t cs) (i : Nat) : w.frozen? ⟨g, i, none⟩ = false := frozen_of_row w g i cs _ h
theorem Blk.new (w : World) (t : TypeId) (cs : Array Value) : Blk (w.alloc (.cells cs t)) w.heap.size t cs := heap_alloc_new w _
theorem Blk.set (h : Blk w g t cs) (i : Nat) (u : Value) : Blk (w.setCell ⟨g, i, none⟩ u) g t (cs.setIfInBounds i u) := by
  unfold Blk at *; exact heap_setCell_same _ _ _ _ _ _ h
theorem Blk.far (h : Blk w g t cs) {p : Addr} (hp : g ≠ p.block) (u : Value) : Blk (w.setCell p u) g t cs := (Below.heap_setCell w p u g hp).trans h
theorem Blk.kept (h : Blk w g t cs) (k : Kept S w w') (hn : ¬ S g) : Blk w' g t cs := (k.block g h.lt hn).trans h
theorem Blk.below {B : Nat} (h : Blk w g t cs) (hb : Below B w w') (hg : g < B) : Blk w' g t cs := (hb.block g hg).trans h
theorem Blk.alloc (h : Blk w g t cs) (o : Obj) : Blk (w.alloc o) g t cs := (Below.heap_alloc w o g h.lt).trans h
theorem Blk.grown {row : Option Nat} (h : Blk w g t cs) (hg : w.grownBy w' row) (hn : some g ≠ row) : Blk w' g t cs := (hg.block g h.lt hn).trans h
theorem Blk.unlike {g' : Nat} {t' : TypeId} {cs' : Array Value} (h : Blk w g t cs) (h' : Blk w g' t' cs') (hne : t ≠ t') : g ≠ g' := by
  rintro rfl
  unfold Blk at h h'
  rw [h] at h'
  cases h'
  exact hne rfl
theorem own_unlike {base : Nat} {e : TypeId} {size n : Nat} {v : Value} {xs : List Value} (h : w.ownsRow base e size v n xs) (hg : Blk w g t cs) (hne : e ≠ t) : some g ≠ v.ownBlock := by
  rcases h.2 with ⟨rfl, _⟩ | ⟨g', cap, cur, rfl, _, hh, _⟩
  · simp [Value.ownBlock]
  · intro he
    have : g = g' := by simpa [Value.ownBlock] using he
    subst this
    exact Blk.unlike (t := e) hh hg hne rfl
theorem own_kept {base : Nat} {e : TypeId} {size n : Nat} {v : Value} {xs : List Value} (h : w.ownsRow base e size v n xs) (k : Kept S w w') (hn : ∀ g, v.ownBlock = some g → ¬ S g) : w'.ownsRow base e size v n xs := by
  obtain ⟨h1, h2⟩ := h
  refine ⟨h1, ?_⟩
  rcases h2 with h2 | ⟨g, cap, cur, rfl, hg, hh, r⟩
  · exact .inl h2
  · exact .inr ⟨g, cap, cur, rfl, hg, Blk.kept (t := e) (cs := cur) hh k (hn g rfl), r⟩
theorem own_slice {base : Nat} {e : TypeId} {size n : Nat} {v : Value} {xs : List Value} (h : w.ownsRow base e size v n xs) : ∃ a cap, v = .slice a n cap := by
  rcases h.2 with ⟨rfl, rfl⟩ | ⟨g', cap, cur, rfl, _, hh, _⟩
  · exact ⟨none, 0, rfl⟩
  · exact ⟨_, _, rfl⟩
theorem own_lt {base : Nat} {e : TypeId} {size n : Nat} {v : Value} {xs : List Value} (h : w.ownsRow base e size v n xs) {g : Nat} (hg : v.ownBlock = some g) : g < w.heap.size := by
  rcases h.2 with ⟨rfl, _⟩ | ⟨g', cap, cur, rfl, _, hh, _⟩
  · simp [Value.ownBlock] at hg
  · obtain rfl : g' = g := by simpa [Value.ownBlock] using hg
    exact Blk.lt (t := e) (cs := cur) hh
theorem own_base {base base' : Nat} {e : TypeId} {size n : Nat} {v : Value} {xs : List Value} (h : w.ownsRow base e size v n xs) (hb : ∀ g, v.ownBlock = some g → base' ≤ g) : w.ownsRow base' e size v n xs := by
  obtain ⟨h1, h2⟩ := h
  refine ⟨h1, ?_⟩
  rcases h2 with h2 | ⟨g, cap, cur, rfl, hg, hh, r⟩
  · exact .inl h2
  · exact .inr ⟨g, cap, cur, rfl, hb g rfl, hh, r⟩
end
end Go.Proofs.Ytajkajgnjcnolaa

namespace Go.Proofs.Ytajkajgnjcnolaa
open Go.RowKit
set_option linter.unusedVariables false
set_option linter.unnecessarySimpa false
set_option linter.unusedSimpArgs false
theorem ret_int {k : IntKind} {a b : Int} (h : a = b) : Ending.returned (.int k a) = .returned (.int k b) := by rw [h]
theorem ret_bool {a b : Bool} (h : a = b) : Ending.returned (.bool a) = .returned (.bool b) := by rw [h]
theorem below_alloc (w : World) (o : Obj) : Below w.heap.size w (w.alloc o) := (Below.refl _ _).alloc (Nat.le_refl _) _
theorem bthen {w w1 w2 : World} (h : Below w.heap.size w w1) (k : Below w1.heap.size w1 w2) : Below w.heap.size w w2 := h.trans (k.mono h.size)
theorem bel_next {wb w w' : World} (h : Below wb.heap.size wb w) (hb : Below w.heap.size w w') : Below wb.heap.size wb w' := h.trans (hb.mono h.size)
theorem setRow_new (w : World) (C D : Array Value) (t : TypeId) : (w.alloc (Obj.cells C t)).setRow w.heap.size D = w.alloc (Obj.cells D t) := by
  have hm : ∀ (a : Array Obj) (x : Obj) (f : Obj → Obj), (a.push x).modify a.size f = a.push (f x) := by
    intro a x f
    apply Array.ext
    · simp
    · intro i h1 h2
      simp only [Array.getElem_modify, Array.getElem_push]
      by_cases h : a.size = i
      · subst h; simp
      · have hi : i < a.size := by simp at h1; omega
        simp [h, hi]
  unfold World.setRow
  show ({ w.alloc (.cells C t) with heap := (w.heap.push (.cells C t)).modify w.heap.size _ } : World) = _
  rw [hm]
  rfl
def wB (v a b : Int) : Bool := decide (a ≤ v) && decide (v ≤ b)
theorem Kept.setRow {S : Nat → Prop} {w0 w : World} (h : Kept S w0 w) {g : Nat} (hg : S g) (cs : Array Value) : Kept S w0 (w.setRow g cs) := by
  refine ⟨h.os, h.tape, h.output, ?_, fun k hk hn => ?_⟩
  · have := h.size; unfold World.setRow; simpa using this
  · rw [← h.block k hk hn]
    unfold World.setRow
    show (w.heap.modify g _)[k]? = w.heap[k]?
    rw [Array.getElem?_modify, if_neg (fun e => hn (by rw [← e]; exact hg))]
theorem Blk.setRow {w : World} {g : Nat} {t : TypeId} {old cs : Array Value} (h : Blk w g t old) : Blk (w.setRow g cs) g t cs := setRow_heap w g old cs t (0, 0) h
section
variable {P : Program} {w : World} {ops : Array Oper} {rest : List Oper} {o : Oper} {a : Act} {Q : Exit → Act → World → Prop}
theorem wpl_load (hgd : o.guard = none) {ty : TypeId} (x : Operand) (ho : o.op = .load ty x) (g : Nat) (hx : a.eval x = .pointer (some ⟨g, 0, none⟩)) (t : TypeId) (cs : Array Value) (d : TypeDesc) (hg : Blk w g t cs)
    (hu : P.underlying ty = some d) (hd : (match d with | .struct _ | .array _ _ => true | _ => false) = true) (hi : (P.info? ty).map (·.size) = some cs.size)
    (h : wpList P ops Q rest (a.put o.dst (.agg cs)) w) : wpList P ops Q (o :: rest) a w :=
  wpList_load_row hgd ty x ho g hx t cs (0, 0) d hg hu hd hi h
theorem wpl_load_g (hw : Region.wanted o (yielded ops a.tmps) = true) {ty : TypeId} (x : Operand) (ho : o.op = .load ty x) (g : Nat) (hx : a.eval x = .pointer (some ⟨g, 0, none⟩)) (t : TypeId) (cs : Array Value) (d : TypeDesc) (hg : Blk w g t cs)
    (hu : P.underlying ty = some d) (hd : (match d with | .struct _ | .array _ _ => true | _ => false) = true) (hi : (P.info? ty).map (·.size) = some cs.size)
    (h : wpList P ops Q rest (a.put o.dst (.agg cs)) w) : wpList P ops Q (o :: rest) a w := by
  unfold wpList
  rw [if_pos hw]
  exact .inl (wp_load_row ty x ho g hx t cs (0, 0) d hg hu hd hi h)
theorem wpl_build (hw : Region.wanted o (yielded ops a.tmps) = true) (ty : TypeId) (parts : Array (Nat × Operand)) (ho : o.op = .build ty parts) (v : Value) (hrun : ∀ w, (execOp a.eval o).run P w = .ok (.value v) w)
    (h : wpList P ops Q rest (a.put o.dst v) w) : wpList P ops Q (o :: rest) a w := by
  unfold wpList
  rw [if_pos hw]
  refine .inl ?_
  unfold Oper.wp
  rw [hrun w]
  exact h
theorem wpl_store (hgd : o.guard = none) {ty : TypeId} (x y : Operand) (ho : o.op = .store ty x y) (g : Nat) (cs : Array Value) (hx : a.eval x = .pointer (some ⟨g, 0, none⟩)) (hy : a.eval y = .agg cs) (t : TypeId) (old : Array Value) (hg : Blk w g t old)
    (hi : (P.info? ty).map (·.size) = some cs.size) (hold : old.size = cs.size) (h1 : cs.all (·.oneCell') = true)
    (h : ∀ w', Blk w' g t cs → Kept (· = g) w w' → wpList P ops Q rest (a.put o.dst undef) w') : wpList P ops Q (o :: rest) a w :=
  wpList_store_row hgd ty x y ho g cs hx hy t old hg hi hold h1 (h _ (Blk.setRow hg) ((Kept.refl (· = g) w).setRow rfl cs))
theorem wpl_store_new (hgd : o.guard = none) {ty : TypeId} (x y : Operand) (ho : o.op = .store ty x y) (cs : Array Value) (w0 : World) (t : TypeId) (old : Array Value) (hw : w = w0.alloc (.cells old t)) (hx : a.eval x = .pointer (some ⟨w0.heap.size, 0, none⟩)) (hy : a.eval y = .agg cs)
    (hi : (P.info? ty).map (·.size) = some cs.size) (hold : old.size = cs.size) (h1 : cs.all (·.oneCell') = true)
    (h : wpList P ops Q rest (a.put o.dst undef) (w0.alloc (.cells cs t))) : wpList P ops Q (o :: rest) a w := by
  subst hw
  refine wpList_store_row hgd ty x y ho w0.heap.size cs hx hy t old (heap_alloc_new w0 _) hi hold h1 ?_
  rwa [setRow_new]
theorem wpl_run (hw : Region.wanted o (yielded ops a.tmps) = true) (v : Value) (hrun : (execOp a.eval o).run P w = .ok (.value v) w) (h : wpList P ops Q rest (a.put o.dst v) w) : wpList P ops Q (o :: rest) a w := by
  unfold wpList
  rw [if_pos hw]
  refine .inl ?_
  unfold Oper.wp
  rw [hrun]
  exact h
end
theorem results_cell_slot {P : Program} {fn : Func} {p q : Tmp} {ty : TypeId} (h : fn.results = #[.cell p ty, .tmp q]) (tmps : Array Value) (w : World) (g : Nat) (t : TypeId) (cs : Array Value) (v : Value) (d : TypeDesc)
    (hp : tmps.getD p undef = .pointer (some ⟨g, 0, none⟩)) (hq : tmps.getD q undef = v) (hg : Blk w g t cs)
    (hu : P.underlying ty = some d) (hd : (match d with | .struct _ | .array _ _ => true | _ => false) = true) (hi : (P.info? ty).map (·.size) = some cs.size) :
    (results fn tmps).run P w = .ok (.tuple #[.agg cs, v]) w := by
  have hp' : tmps[p]?.getD undef = .pointer (some ⟨g, 0, none⟩) := by simpa using hp
  have hq' : tmps[q]?.getD undef = v := by simpa using hq
  simp [results, h, hp', hq', asAddr, run_loadVar_row w g t ty cs (0, 0) d hg hu hd hi]
section
variable {P : Program} {md : Region.Mode} {ops : Array Oper} {Q : Exit → Act → World → Prop} {S : World → Prop}
theorem takeH {i d : Nat} {oi : Oper} {v : Value} {fuel : Nat} {listed : Array Bool} {a : Act} {w : World} (hS : S w) (hi : ops[i]? = some oi) (hd : oi.dst = some d)
    (hs : Region.noSelect ops = true) (hf : Region.free md ops listed i = true) (hr : (Region.ready md ops listed).contains i = true)
    (hQ : ∀ c a w, Q (.panic c) (a.put oi.dst v) w → Q (.panic c) a w) (hy : YieldsIf P ops S oi v a)
    (h : wpAnyH P md ops Q S fuel (listed.setIfInBounds i true) (a.put (some d) v) w) : wpAnyH P md ops Q S (fuel + 1) listed a w :=
  wpAnyH_take hi hs hf hr hQ hy hS (by rw [hd]; exact h)
theorem wpOp_of {i : Nat} {o : Oper} {a : Act} {w : World} {K : Act → World → Prop} (ho : ops[i]? = some o) (hw : Region.wanted o (yielded ops a.tmps) = true) (h : ∀ K' : Act → World → Prop, (∀ a w, K a w → K' a w) → Oper.wp P o a w K' Q) : wpOp P ops Q i K a w := by
  refine wpOp_step ho (fun K' hK => ?_)
  rw [if_pos hw]
  exact h K' hK
theorem nextH {i : Nat} {o : Oper} {fuel : Nat} {listed : Array Bool} {a : Act} {w : World} (ho : ops[i]? = some o)
    (hr : Region.ready md ops listed = [i]) (hw : Region.wanted o (yielded ops a.tmps) = true)
    (h : ∀ K' : Act → World → Prop, Shut (∀ a w, S w ∧ wpAnyH P md ops Q S fuel (listed.setIfInBounds i true) a w → K' a w) → Oper.wp P o a w K' Q) : wpAnyH P md ops Q S (fuel + 1) listed a w :=
  wpAnyH_all hr (by simp) (fun j hj => by
    obtain rfl : j = i := by simpa using hj
    exact wpOp_of ho hw h)
theorem nextH2 {i k : Nat} {o o' : Oper} {fuel : Nat} {listed : Array Bool} {a : Act} {w : World} (ho : ops[i]? = some o) (ho' : ops[k]? = some o')
    (hr : Region.ready md ops listed = [i, k]) (hw : Region.wanted o (yielded ops a.tmps) = true) (hw' : Region.wanted o' (yielded ops a.tmps) = true)
    (h : ∀ K' : Act → World → Prop, Shut (∀ a w, S w ∧ wpAnyH P md ops Q S fuel (listed.setIfInBounds i true) a w → K' a w) → Oper.wp P o a w K' Q)
    (h' : ∀ K' : Act → World → Prop, Shut (∀ a w, S w ∧ wpAnyH P md ops Q S fuel (listed.setIfInBounds k true) a w → K' a w) → Oper.wp P o' a w K' Q) : wpAnyH P md ops Q S (fuel + 1) listed a w :=
  wpAnyH_all hr (by simp) (fun j hj => by
    have hj' : j = i ∨ j = k := by simpa using hj
    rcases hj' with rfl | rfl
    · exact wpOp_of ho hw h
    · exact wpOp_of ho' hw' h')
theorem exec_load {o : Oper} {a : Act} {w : World} {ty : TypeId} (x : Operand) (ho : o.op = .load ty x) (g : Nat) (hx : a.eval x = .pointer (some ⟨g, 0, none⟩)) {t : TypeId} {cs : Array Value} {d : TypeDesc} (hg : Blk w g t cs)
    (hu : P.underlying ty = some d) (hd : (match d with | .struct _ | .array _ _ => true | _ => false) = true) (hi : (P.info? ty).map (·.size) = some cs.size) : (execOp a.eval o).run P w = .ok (.value (.agg cs)) w := by
  unfold execOp
  simp only [ho, hx, Instr.loadAt, Instr.sureAddr, Sem.run_bind, Sem.run_pure, Result.andThen_ok, run_loadVar_row w g t ty cs (0, 0) d hg hu hd hi]
end
section
variable {P : Program} {o : Oper} {a : Act} {w : World}
theorem run_guard_int (w : World) (op : BinOp) (t : TypeId) (x y : Operand) (k k' : IntKind) (i j : Int) : (eqGuard op t x y (.int k i) (.int k' j)).run P w = .ok () w := by
  cases op <;> simp [eqGuard]
theorem exec_bin {op : BinOp} {ty rt : TypeId} (x y : Operand) (ho : o.op = .binOp op ty x y rt) {k k' : IntKind} (i j : Int) (hx : a.eval x = .int k i) (hy : a.eval y = .int k' j) {v : Value} (hr : (binOp op ty (.int k i) (.int k' j)).run P w = .ok v w) :
    (execOp a.eval o).run P w = .ok (.value v) w := by
  unfold execOp
  simp only [ho, hx, hy, Sem.run_bind, run_guard_int, Result.andThen_ok, hr, Sem.run_pure]
theorem exec_add {ty rt : TypeId} (x y : Operand) (ho : o.op = .binOp .add ty x y rt) (i j k : Int) (hx : a.eval x = .int .i64 i) (hy : a.eval y = .int .i64 j) (h : i + j = k) (hk : -9223372036854775808 ≤ k ∧ k ≤ 9223372036854775807) :
    (execOp a.eval o).run P w = .ok (.value (.int .i64 k)) w := by
  subst h
  refine exec_bin x y ho i j hx hy ?_
  rw [binOp_add]; simp only [Op.intArith, Sem.run_pure, IntWalk.i64_in _ hk]
theorem exec_sub {ty rt : TypeId} (x y : Operand) (ho : o.op = .binOp .sub ty x y rt) (i j k : Int) (hx : a.eval x = .int .i64 i) (hy : a.eval y = .int .i64 j) (h : i - j = k) (hk : -9223372036854775808 ≤ k ∧ k ≤ 9223372036854775807) :
    (execOp a.eval o).run P w = .ok (.value (.int .i64 k)) w := by
  subst h
  refine exec_bin x y ho i j hx hy ?_
  rw [binOp_sub]; simp only [Op.intArith, Sem.run_pure, IntWalk.i64_in _ hk]
theorem exec_lss {ty rt : TypeId} (x y : Operand) (ho : o.op = .binOp .lss ty x y rt) {q q' : IntKind} (i j : Int) (hx : a.eval x = .int q i) (hy : a.eval y = .int q' j) (b : Bool) (h : decide (i < j) = b) (hq : q = q') : (execOp a.eval o).run P w = .ok (.value (.bool b)) w := by
  subst h hq
  exact exec_bin x y ho i j hx hy (by rw [binOp_lss]; rfl)
theorem exec_leq {ty rt : TypeId} (x y : Operand) (ho : o.op = .binOp .leq ty x y rt) {q q' : IntKind} (i j : Int) (hx : a.eval x = .int q i) (hy : a.eval y = .int q' j) (b : Bool) (h : decide (i ≤ j) = b) (hq : q = q') : (execOp a.eval o).run P w = .ok (.value (.bool b)) w := by
  subst h hq
  exact exec_bin x y ho i j hx hy (by rw [binOp_leq]; rfl)
theorem exec_gtr {ty rt : TypeId} (x y : Operand) (ho : o.op = .binOp .gtr ty x y rt) {q q' : IntKind} (i j : Int) (hx : a.eval x = .int q i) (hy : a.eval y = .int q' j) (b : Bool) (h : decide (i > j) = b) (hq : q = q') : (execOp a.eval o).run P w = .ok (.value (.bool b)) w := by
  subst h hq
  exact exec_bin x y ho i j hx hy (by rw [binOp_gtr]; rfl)
theorem exec_geq {ty rt : TypeId} (x y : Operand) (ho : o.op = .binOp .geq ty x y rt) {q q' : IntKind} (i j : Int) (hx : a.eval x = .int q i) (hy : a.eval y = .int q' j) (b : Bool) (h : decide (i ≥ j) = b) (hq : q = q') : (execOp a.eval o).run P w = .ok (.value (.bool b)) w := by
  subst h hq
  exact exec_bin x y ho i j hx hy (by rw [binOp_geq]; rfl)
theorem exec_eql {ty rt : TypeId} (x y : Operand) (ho : o.op = .binOp .eql ty x y rt) {q q' : IntKind} (i j : Int) (hx : a.eval x = .int q i) (hy : a.eval y = .int q' j) (b : Bool) (h : decide (i = j) = b) (hq : q = q') : (execOp a.eval o).run P w = .ok (.value (.bool b)) w := by
  subst h hq
  exact exec_bin x y ho i j hx hy (by rw [binOp_eql]; rfl)
theorem exec_neq {ty rt : TypeId} (x y : Operand) (ho : o.op = .binOp .neq ty x y rt) {q q' : IntKind} (i j : Int) (hx : a.eval x = .int q i) (hy : a.eval y = .int q' j) (b : Bool) (h : (!decide (i = j)) = b) (hq : q = q') : (execOp a.eval o).run P w = .ok (.value (.bool b)) w := by
  subst h hq
  exact exec_bin x y ho i j hx hy (by rw [binOp_neq]; rfl)
theorem exec_cell {ty : TypeId} (x : Operand) (ho : o.op = .load ty x) (p : Addr) (hx : a.eval x = .pointer (some p)) {k k' : IntKind} (z : Int) (hu : P.underlying ty = some (.int k')) (hc : w.cell? p = some (.int k z)) : (execOp a.eval o).run P w = .ok (.value (.int k z)) w := by
  unfold execOp
  have ha : (isAgg ty).run P w = .ok false w := by simp [isAgg, run_underlying hu]
  simp only [ho, hx, Instr.loadAt, Instr.sureAddr, Sem.run_bind, Sem.run_pure, Result.andThen_ok, loadVar, ha]
  simp [hc]
end
end Go.Proofs.Ytajkajgnjcnolaa

namespace Go.Proofs.Ytajkajgnjcnolaa
open Go.RowKit CrcM
set_option linter.unusedVariables false
set_option linter.unnecessarySimpa false
set_option linter.unusedSimpArgs false
structure RowB (w : World) (a : Option Addr) (len cap : Nat) (bs : List Nat) : Prop where
  length : bs.length = len
  le : len ≤ cap
  max : cap ≤ maxLen
  lt : ∀ c ∈ bs, c < 256
  cells : 0 < len → ∃ b off, a = some ⟨b, off, none⟩ ∧ ∀ i, i < len → w.cell? ⟨b, off + i, none⟩ = some (.int .u8 (bs.getD i 0 : Nat))
  nil : a = none → cap = 0
theorem getD_lt {bs : List Nat} (hb : ∀ c ∈ bs, c < 256) (k : Nat) : bs.getD k 0 < 256 := by
  by_cases h : k < bs.length
  · have : bs.getD k 0 = bs[k] := by simp [List.getD, h]
    rw [this]; exact hb _ (List.getElem_mem _)
  · simp [List.getD, h]
theorem RowB.below {w w' : World} {a : Option Addr} {len cap : Nat} {bs : List Nat} (h : RowB w a len cap bs) (hb : Below w.heap.size w w') : RowB w' a len cap bs := by
  obtain ⟨h1, h2, h3, h4, h5, h6⟩ := h
  refine ⟨h1, h2, h3, h4, fun h0 => ?_, h6⟩
  obtain ⟨b, off, rfl, hc⟩ := h5 h0
  refine ⟨b, off, rfl, fun i hi => ?_⟩
  have hlt := block_lt_of_cell (hc i hi)
  exact (hb.cell (p := ⟨b, off + i, none⟩) hlt).trans (hc i hi)
def bvals (bs : List Nat) : List Value := bs.map fun c => Value.int .u8 (c : Nat)
theorem bvals_length (bs : List Nat) : (bvals bs).length = bs.length := by simp [bvals]
theorem bvals_at (bs : List Nat) (i : Nat) (h : i < bs.length) : (bvals bs)[i]? = some (.int .u8 (bs.getD i 0 : Nat)) := by simp [bvals, h, List.getD]
theorem bvals_one (bs : List Nat) : ∀ u ∈ bvals bs, u.oneCell' = true := by
  intro u hu; obtain ⟨c, _, rfl⟩ := List.mem_map.1 hu; rfl
theorem bvals_set (bs : List Nat) (i x : Nat) : (bvals bs).set i (.int .u8 (x : Nat)) = bvals (bs.set i x) := by simp [bvals, List.map_set]
theorem RowB.set {w : World} {g n cap : Nat} {bs : List Nat} (h : RowB w (some ⟨g, 0, none⟩) n cap bs) (i x : Nat) (hi : i < n) (hx : x < 256) :
    RowB (w.setCell ⟨g, i, none⟩ (.int .u8 (x : Nat))) (some ⟨g, 0, none⟩) n cap (bs.set i x) := by
  have hl := h.length
  refine ⟨by rw [List.length_set]; exact hl, h.le, h.max, set_lt h.lt hx, fun h0 => ?_, h.nil⟩
  obtain ⟨b, off, hab, hc⟩ := h.cells h0
  obtain ⟨rfl, rfl⟩ : g = b ∧ 0 = off := by simpa using hab
  refine ⟨g, 0, rfl, fun j hj => ?_⟩
  have hcj := hc j hj
  rw [Nat.zero_add] at *
  by_cases e : i = j
  · subst e
    rw [World.cell?_setCell_same _ _ _ hcj]
    simp [List.getD, List.getElem?_set, hl, hi]
  · rw [World.cell?_setCell_other _ _ _ _ (by simp [e]), hcj]
    simp [List.getD, List.getElem?_set, e]
theorem RowB.block {w : World} {a : Option Addr} {n cap : Nat} {bs : List Nat} (h : RowB w a n cap bs) (h0 : 0 < n) : ∃ ad, a = some ad ∧ ad.block < w.heap.size := by
  obtain ⟨b, off, rfl, hc⟩ := h.cells h0
  exact ⟨_, rfl, block_lt_of_cell (hc 0 h0)⟩
def bA (bs : List Nat) : Array Value := (bvals bs).toArray
theorem bA_size (bs : List Nat) : (bA bs).size = bs.length := by simp [bA, bvals]
theorem bA_at (bs : List Nat) (i : Nat) (h : i < bs.length) : (bA bs)[i]? = some (.int .u8 (bs.getD i 0 : Nat)) := by
  unfold bA; rw [List.getElem?_toArray]; exact bvals_at bs i h
theorem bA_set (bs : List Nat) (i x : Nat) : (bA bs).setIfInBounds i (.int .u8 (x : Nat)) = bA (bs.set i x) := by
  unfold bA; rw [← bvals_set]; simp
def zeros (n : Nat) : List Nat := List.replicate n 0
theorem zeros_length (n : Nat) : (zeros n).length = n := by simp [zeros]
theorem zeros_lt (n : Nat) : ∀ c ∈ zeros n, c < 256 := by intro c hc; rw [(List.mem_replicate.1 hc).2]; decide
def slAddr (a : Option Addr) (cap lo : Nat) : Option Addr := if cap = lo then a else a.map (·.add lo)
theorem RowB.to {w : World} {a : Option Addr} {len cap : Nat} {bs : List Nat} (h : RowB w a len cap bs) (n : Nat) (hn : n ≤ len) : RowB w a n cap (bs.take n) := by
  have hl := h.length
  refine ⟨by simp; omega, Nat.le_trans hn h.le, h.max, fun c hc => h.lt c (List.mem_of_mem_take hc), fun h0 => ?_, h.nil⟩
  obtain ⟨b, off, rfl, hc⟩ := h.cells (by omega)
  refine ⟨b, off, rfl, fun i hi => ?_⟩
  rw [hc i (by omega)]
  simp [List.getD, List.getElem?_take_of_lt hi]
theorem RowB.from {w : World} {a : Option Addr} {len cap : Nat} {bs : List Nat} (h : RowB w a len cap bs) (lo : Nat) (hn : lo ≤ len) : RowB w (slAddr a cap lo) (len - lo) (cap - lo) (bs.drop lo) := by
  have hl := h.length
  have hle := h.le
  refine ⟨by simp; omega, by omega, by have := h.max; omega, fun c hc => h.lt c (List.mem_of_mem_drop hc), fun h0 => ?_, fun hn => ?_⟩
  · obtain ⟨b, off, rfl, hc⟩ := h.cells (by omega)
    refine ⟨b, off + lo, ?_, fun i hi => ?_⟩
    · unfold slAddr; rw [if_neg (by omega)]; simp [Addr.add_mid]
    · rw [Nat.add_assoc, hc (lo + i) (by omega)]
      simp [List.getD, List.getElem?_drop]
  · unfold slAddr at hn
    split at hn
    · omega
    · have : a = none := by cases a <;> simp_all
      have := h.nil this
      omega
theorem RowB.kept {S : Nat → Prop} {w w' : World} {a : Option Addr} {len cap : Nat} {bs : List Nat} (h : RowB w a len cap bs) (k : Kept S w w') (hn : 0 < len → ∀ ad, a = some ad → ¬ S ad.block) : RowB w' a len cap bs := by
  obtain ⟨h1, h2, h3, h4, h5, h6⟩ := h
  refine ⟨h1, h2, h3, h4, fun h0 => ?_, h6⟩
  obtain ⟨b, off, rfl, hc⟩ := h5 h0
  refine ⟨b, off, rfl, fun i hi => ?_⟩
  have hlt := block_lt_of_cell (hc i hi)
  exact (World.cell?_of_block (w := w) (w' := w') (a := ⟨b, off + i, none⟩) (k.block b hlt (hn h0 _ rfl))).trans (hc i hi)
structure RowZ (w : World) (a : Option Addr) (len cap : Nat) (zs : List Int) : Prop where
  length : zs.length = len
  le : len ≤ cap
  max : cap ≤ maxLen
  wf : ∀ z ∈ zs, (Lit.int .i64 z).wf = true
  cells : 0 < len → ∃ b off, a = some ⟨b, off, none⟩ ∧ ∀ i, i < len → w.cell? ⟨b, off + i, none⟩ = some (.int .i64 (zs.getD i 0))
  nil : a = none → cap = 0
theorem rowZ_nil (w : World) : RowZ w none 0 0 [] := ⟨rfl, Nat.le_refl _, Nat.zero_le _, by simp, fun h => absurd h (by decide), fun _ => rfl⟩
theorem rowZ_of_ints {w : World} {x : Addr} {l c : Nat} {zs : List Int} (hl : l ≤ c) (hm : c ≤ maxLen) (hz : zs.length = c)
    (hcell : ∀ i, i < zs.length → w.cell? (x.add i) = some (.int .i64 (zs.getD i 0))) (hwz : ∀ n ∈ zs, (Lit.int .i64 n).wf = true) : ∃ ys, RowZ w (some x) l c ys := by
  refine ⟨zs.take l, by simp; omega, hl, hm, fun c hc => hwz c (List.mem_of_mem_take hc), fun h0 => ?_, fun h => by cases h⟩
  obtain ⟨b, off, rfl, h⟩ := ints_at hcell (by omega)
  refine ⟨b, off, rfl, fun i hi => ?_⟩
  rw [h i (by omega)]
  simp [List.getD, List.getElem?_take_of_lt hi]
theorem RowZ.below {w w' : World} {a : Option Addr} {len cap : Nat} {zs : List Int} (h : RowZ w a len cap zs) (hb : Below w.heap.size w w') : RowZ w' a len cap zs := by
  obtain ⟨h1, h2, h3, h4, h5, h6⟩ := h
  refine ⟨h1, h2, h3, h4, fun h0 => ?_, h6⟩
  obtain ⟨b, off, rfl, hc⟩ := h5 h0
  refine ⟨b, off, rfl, fun i hi => ?_⟩
  have hlt := block_lt_of_cell (hc i hi)
  exact (hb.cell (p := ⟨b, off + i, none⟩) hlt).trans (hc i hi)
theorem bounds_i64 {z : Int} (h : (Lit.int .i64 z).wf = true) : -9223372036854775808 ≤ z ∧ z ≤ 9223372036854775807 := by
  simp only [Lit.wf, IntKind.min, IntKind.max, IntKind.signed, IntKind.bits, Bool.and_eq_true, decide_eq_true_eq, if_true] at h
  omega
theorem RowZ.bounds {w : World} {a : Option Addr} {len cap : Nat} {zs : List Int} (h : RowZ w a len cap zs) (i : Nat) : -9223372036854775808 ≤ zs.getD i 0 ∧ zs.getD i 0 ≤ 9223372036854775807 := by
  by_cases hi : i < zs.length
  · have e : zs.getD i 0 = zs[i] := by simp [List.getD, hi]
    rw [e]; exact bounds_i64 (h.wf _ (List.getElem_mem _))
  · have e : zs.getD i 0 = 0 := by simp [List.getD, hi]
    rw [e]; omega
end Go.Proofs.Ytajkajgnjcnolaa

namespace Go.Proofs.Ytajkajgnjcnolaa
open Go.RowKit Go.Maps Go.MapKept Go.ChangeMaps
set_option linter.unusedVariables false
set_option linter.unnecessarySimpa false
set_option linter.unusedSimpArgs false
section
variable {κ ε : Type}
def MapF (P : Program) (k : TypeId) (kv : κ → Value) (el : ε → Value) (w : World) (b n : Nat) (f : κ → Option ε) : Prop :=
  ∃ es clock, w.heap[b]? = some (.map es clock) ∧ es.size ≤ n ∧ (∀ e ∈ es.toList, ∃ l, keyOf P k e.key = some l) ∧ es.toList.Pairwise (fun x y => x.key ≠ y.key) ∧
    (∀ e ∈ es.toList, ∃ x y, e.key = kv x ∧ e.val = el y ∧ f x = some y) ∧ ∀ x, (∀ e ∈ es.toList, e.key ≠ kv x) → f x = none
variable {P : Program} {k : TypeId} {kv : κ → Value} {el : ε → Value} {w w' : World} {b n : Nat} {f f' : κ → Option ε}
theorem MapF.made (P : Program) (k : TypeId) (kv : κ → Value) (el : ε → Value) (w : World) : MapF P k kv el (w.alloc (.map #[] 0)) w.heap.size 0 (fun _ => none) :=
  ⟨#[], 0, (MapKept.heap_alloc w _).1, Nat.le_refl _, by simp, by simp, by simp, fun _ _ => rfl⟩
theorem MapF.lt (h : MapF P k kv el w b n f) : b < w.heap.size := by
  obtain ⟨es, clock, hb, _⟩ := h
  exact (Array.getElem?_eq_some_iff.1 hb).1
theorem MapF.kept {S : Nat → Prop} (h : MapF P k kv el w b n f) (hk : Kept S w w') (hn : ¬ S b) : MapF P k kv el w' b n f := by
  have hlt := h.lt
  obtain ⟨es, clock, hb, r⟩ := h
  exact ⟨es, clock, (hk.block b hlt hn).trans hb, r⟩
theorem MapF.below (h : MapF P k kv el w b n f) (hb : Below w.heap.size w w') : MapF P k kv el w' b n f := h.kept (Kept.of_below (S := fun _ => False) hb) (fun h => h)
theorem MapF.mono (h : MapF P k kv el w b n f) {n' : Nat} (hn : n ≤ n') : MapF P k kv el w b n' f := by
  obtain ⟨es, clock, hb, hs, r⟩ := h
  exact ⟨es, clock, hb, Nat.le_trans hs hn, r⟩
theorem MapF.notblk {g : Nat} {t : TypeId} {cs : Array Value} (h : MapF P k kv el w b n f) (hg : Blk w g t cs) : g ≠ b := by
  rintro rfl
  obtain ⟨es, clock, hb, _⟩ := h
  have h2 : w.heap[g]? = some (.cells cs t (0, 0)) := hg
  rw [hb] at h2
  cases h2
theorem MapF.notrow {lo sz m g : Nat} {E : TypeId} {v : Value} {xs : List Value} (h : MapF P k kv el w b n f) (hr : w.ownsRow lo E sz v m xs) (hg : v.ownBlock = some g) : g ≠ b := by
  rcases hr.2 with ⟨rfl, _⟩ | ⟨g', cap, cur, rfl, _, hh, _⟩
  · simp [Value.ownBlock] at hg
  · obtain rfl : g' = g := by simpa [Value.ownBlock] using hg
    exact h.notblk (g := g') (t := E) (cs := cur) hh
theorem kept_setBlock {es es' : Array MapEntry} {clock clock' : Nat} (hb : w.heap[b]? = some (.map es clock)) : Kept (· = b) w (setBlock w b (.map es' clock')) :=
  ⟨rfl, rfl, rfl, by simp [setBlock], fun i _ hi => heap_setBlock_other hb _ hi⟩
theorem MapF.fnd (K : Keyed P k) (hinj : ∀ x y, kv x = kv y → x = y) {es : Array MapEntry} (h1 : ∀ e ∈ es.toList, ∃ l, keyOf P k e.key = some l) (h3 : ∀ e ∈ es.toList, ∃ x y, e.key = kv x ∧ e.val = el y ∧ f x = some y) (h4 : ∀ x, (∀ e ∈ es.toList, e.key ≠ kv x) → f x = none) {x : κ} {l : Lit} (hx : keyOf P k (kv x) = some l) :
    ((Instr.findKey k (kv x) es.toList).run P w = .ok none w ∧ f x = none ∧ ∀ e ∈ es.toList, e.key ≠ kv x) ∨
    ∃ j e y, (Instr.findKey k (kv x) es.toList).run P w = .ok (some (j, e.val)) w ∧ es.toList[j]? = some e ∧ e.key = kv x ∧ e.val = el y ∧ f x = some y := by
  rcases K.find w hx es.toList h1 with ⟨r, hn⟩ | ⟨j, e, r, hj, he⟩
  · exact .inl ⟨r, h4 x hn, hn⟩
  · obtain ⟨x', y, e1, e2, e3⟩ := h3 e (List.mem_of_getElem? hj)
    obtain rfl : x' = x := hinj _ _ (e1.symm.trans he)
    exact .inr ⟨j, e, y, r, hj, he, e2, e3⟩
theorem MapF.look {t e : TypeId} (h : MapF P k kv el w b n f) (K : Keyed P k) (hinj : ∀ x y, kv x = kv y → x = y) (ht : P.underlying t = some (.map k e)) {z : Value} (hz : (zeroValue e).run P w = .ok z w) (c : Bool) {x : κ} {l : Lit} (hx : keyOf P k (kv x) = some l) :
    (Instr.lookup t (.map (some b)) (kv x) c).run P w = .ok (if c then .tuple #[((f x).map el).getD z, .bool (f x).isSome] else ((f x).map el).getD z) w := by
  obtain ⟨es, clock, hb, hs, h1, h2, h3, h4⟩ := h
  rcases MapF.fnd (w := w) K hinj h1 h3 h4 hx with ⟨r, hf, _⟩ | ⟨j, e, y, r, _, _, hv, hf⟩
  · simp [Instr.lookup, run_underlying ht, MapKept.run_getObj_map hb, K.check w _ hx, r, hz, Result.andThen, hf]
  · simp [Instr.lookup, run_underlying ht, MapKept.run_getObj_map hb, K.check w _ hx, r, Result.andThen, hf, hv]
theorem MapF.store {t e : TypeId} (h : MapF P k kv el w b n f) (K : Keyed P k) (hinj : ∀ x y, kv x = kv y → x = y) (ht : P.underlying t = some (.map k e)) {x : κ} {y : ε} {l : Lit} (hx : keyOf P k (kv x) = some l) (hf : f' x = some y) (ho : ∀ x', x' ≠ x → f' x' = f x') :
    ∃ w', (Instr.mapUpdate t (.map (some b)) (kv x) (el y)).run P w = .ok () w' ∧ MapF P k kv el w' b (n + 1) f' ∧ Kept (· = b) w w' := by
  obtain ⟨es, clock, hb, hs, h1, h2, h3, h4⟩ := h
  rcases MapF.fnd (w := w) K hinj h1 h3 h4 hx with ⟨r, hf0, hno⟩ | ⟨j, e0, y0, r, hj, hk, hv, hf0⟩
  · refine ⟨setBlock w b (.map (es.push ⟨kv x, el y, clock⟩) (clock + 1)), ?_, ⟨_, _, heap_setBlock_same hb _, by simp; omega, ?_, ?_, ?_, ?_⟩, kept_setBlock hb⟩
    · simp [Instr.mapUpdate, run_underlying ht, MapKept.run_getObj_map hb, K.check w false hx, r, MapKept.run_setObj_map _ hb, Result.andThen, setBlock]
    · intro e he
      rw [Array.toList_push] at he
      rcases List.mem_append.1 he with h | h
      · exact h1 e h
      · obtain rfl := List.mem_singleton.1 h
        exact ⟨l, hx⟩
    · rw [Array.toList_push, List.pairwise_append]
      refine ⟨h2, by simp, fun a ha c hc => ?_⟩
      obtain rfl := List.mem_singleton.1 hc
      exact hno a ha
    · intro e he
      rw [Array.toList_push] at he
      rcases List.mem_append.1 he with h | h
      · obtain ⟨x', y', e1, e2, e3⟩ := h3 e h
        have hne : x' ≠ x := fun e4 => hno e h (by rw [e1, e4])
        exact ⟨x', y', e1, e2, by rw [ho _ hne]; exact e3⟩
      · obtain rfl := List.mem_singleton.1 h
        exact ⟨x, y, rfl, rfl, hf⟩
    · intro x' hx'
      have hne : x' ≠ x := fun e4 => hx' ⟨kv x, el y, clock⟩ (by simp) (by rw [e4])
      rw [ho _ hne]
      exact h4 x' (fun e he => hx' e (by simp [he]))
  · have hjl : j < es.toList.length := (List.getElem?_eq_some_iff.1 hj).1
    have hja : es[j]? = some e0 := by simpa using hj
    have hlist : (es.modify j (fun e' => { e' with key := kv x, val := el y })).toList = es.toList.set j { e0 with key := kv x, val := el y } := by rw [Array.toList_modify, modify_eq_set _ _ _ _ hj]
    have hother : ∀ i e, es.toList[i]? = some e → i ≠ j → e.key ≠ kv x := fun i e hi hij hke => by
      have hil := (List.getElem?_eq_some_iff.1 hi).1
      have p := List.pairwise_iff_getElem.1 h2
      rcases Nat.lt_or_gt_of_ne hij with hlt | hlt
      · have := p i j hil hjl hlt
        rw [(List.getElem?_eq_some_iff.1 hi).2, (List.getElem?_eq_some_iff.1 hj).2] at this
        exact this (hke.trans hk.symm)
      · have := p j i hjl hil hlt
        rw [(List.getElem?_eq_some_iff.1 hi).2, (List.getElem?_eq_some_iff.1 hj).2] at this
        exact this (hk.trans hke.symm)
    refine ⟨setBlock w b (.map (es.modify j (fun e' => { e' with key := kv x, val := el y })) clock), ?_, ⟨_, _, heap_setBlock_same hb _, by simp; omega, ?_, ?_, ?_, ?_⟩, kept_setBlock hb⟩
    · simp [Instr.mapUpdate, run_underlying ht, MapKept.run_getObj_map hb, K.check w false hx, r, hja, hk, K.stays w hx, MapKept.run_setObj_map _ hb, Result.andThen, setBlock]
    · intro e he
      rw [hlist] at he
      rcases List.mem_or_eq_of_mem_set he with h | rfl
      · exact h1 e h
      · exact ⟨l, hx⟩
    · rw [hlist, List.pairwise_iff_getElem]
      intro i i' hi hi' hlt
      rw [List.length_set] at hi hi'
      have p := List.pairwise_iff_getElem.1 h2 i i' hi hi' hlt
      rw [List.getElem_set, List.getElem_set]
      split
      · rename_i e1
        subst e1
        rw [if_neg (by omega)]
        have h5 := (List.getElem?_eq_some_iff.1 hj).2
        rw [h5, hk] at p
        exact p
      · split
        · rename_i e1 e2
          subst e2
          have h5 := (List.getElem?_eq_some_iff.1 hj).2
          rw [h5, hk] at p
          exact p
        · exact p
    · intro e he
      rw [hlist] at he
      obtain ⟨i, hi⟩ := List.getElem?_of_mem he
      rw [List.getElem?_set] at hi
      split at hi
      · try rw [if_pos hjl] at hi
        injection hi with hi
        subst hi
        exact ⟨x, y, rfl, rfl, hf⟩
      · rename_i hij
        obtain ⟨x', y', e1, e2, e3⟩ := h3 e (List.mem_of_getElem? hi)
        have hne : x' ≠ x := fun e4 => hother i e hi (fun e5 => hij e5.symm) (by rw [e1, e4])
        exact ⟨x', y', e1, e2, by rw [ho _ hne]; exact e3⟩
    · intro x' hx'
      rw [hlist] at hx'
      have hne : x' ≠ x := fun e4 => hx' { e0 with key := kv x, val := el y } (List.mem_iff_getElem.2 ⟨j, by simpa using hjl, by simp⟩) (by rw [e4])
      rw [ho _ hne]
      refine h4 x' (fun e he hke => ?_)
      obtain ⟨i, hi⟩ := List.getElem?_of_mem he
      by_cases hij : i = j
      · subst hij
        rw [hj] at hi
        injection hi with hi
        subst hi
        exact hne (hinj _ _ (hke.symm.trans hk))
      · exact hx' e (List.mem_of_getElem? (by rw [List.getElem?_set_ne (fun e5 => hij e5.symm)]; exact hi)) hke
theorem MapF.drop {t e : TypeId} (h : MapF P k kv el w b n f) (K : Keyed P k) (hinj : ∀ x y, kv x = kv y → x = y) (ht : P.underlying t = some (.map k e)) {x : κ} {l : Lit} (hx : keyOf P k (kv x) = some l) (hf : f' x = none) (ho : ∀ x', x' ≠ x → f' x' = f x') (ty : TypeId) :
    ∃ w', (Builtin.delete_ #[t, k] ty #[.map (some b), kv x]).run P w = .ok (.tuple #[]) w' ∧ MapF P k kv el w' b n f' ∧ Kept (· = b) w w' := by
  obtain ⟨es, clock, hb, hs, h1, h2, h3, h4⟩ := h
  rcases MapF.fnd (w := w) K hinj h1 h3 h4 hx with ⟨r, hf0, hno⟩ | ⟨j, e0, y0, r, hj, hk, hv, hf0⟩
  · refine ⟨setBlock w b (.map es clock), ?_, ⟨_, _, heap_setBlock_same hb _, hs, h1, h2, ?_, ?_⟩, kept_setBlock hb⟩
    · simp [Builtin.delete_, run_underlying ht, MapKept.run_getObj_map hb, K.check w _ hx, r, MapKept.run_setObj_map _ hb, Result.andThen, setBlock]
    · intro e he
      obtain ⟨x', y', e1, e2, e3⟩ := h3 e he
      have hne : x' ≠ x := fun e4 => hno e he (by rw [e1, e4])
      exact ⟨x', y', e1, e2, by rw [ho _ hne]; exact e3⟩
    · intro x' hx'
      by_cases hne : x' = x
      · rw [hne]; exact hf
      · rw [ho _ hne]; exact h4 x' hx'
  · have hjl : j < es.toList.length := (List.getElem?_eq_some_iff.1 hj).1
    have hjs : j < es.size := by simpa using hjl
    have hsub : (es.eraseIdxIfInBounds j).toList = es.toList.eraseIdx j := by
      unfold Array.eraseIdxIfInBounds
      rw [dif_pos hjs]
      simp
    have hother : ∀ i e, es.toList[i]? = some e → i ≠ j → e.key ≠ kv x := fun i e hi hij hke => by
      have hil := (List.getElem?_eq_some_iff.1 hi).1
      have p := List.pairwise_iff_getElem.1 h2
      rcases Nat.lt_or_gt_of_ne hij with hlt | hlt
      · have := p i j hil hjl hlt
        rw [(List.getElem?_eq_some_iff.1 hi).2, (List.getElem?_eq_some_iff.1 hj).2] at this
        exact this (hke.trans hk.symm)
      · have := p j i hjl hil hlt
        rw [(List.getElem?_eq_some_iff.1 hi).2, (List.getElem?_eq_some_iff.1 hj).2] at this
        exact this (hk.trans hke.symm)
    refine ⟨setBlock w b (.map (es.eraseIdxIfInBounds j) clock), ?_, ⟨_, _, heap_setBlock_same hb _, Nat.le_trans (MapFrom.size_erase es j) hs, ?_, ?_, ?_, ?_⟩, kept_setBlock hb⟩
    · simp [Builtin.delete_, run_underlying ht, MapKept.run_getObj_map hb, K.check w _ hx, r, MapKept.run_setObj_map _ hb, Result.andThen, setBlock]
    · intro e he
      rw [hsub] at he
      exact h1 e ((List.eraseIdx_sublist _ _).subset he)
    · rw [hsub]
      exact h2.sublist (List.eraseIdx_sublist _ _)
    · intro e he
      rw [hsub] at he
      obtain ⟨i, hij, hi⟩ := List.mem_eraseIdx_iff_getElem?.1 he
      obtain ⟨x', y', e1, e2, e3⟩ := h3 e (List.mem_of_getElem? hi)
      have hne : x' ≠ x := fun e4 => hother i e hi hij (by rw [e1, e4])
      exact ⟨x', y', e1, e2, by rw [ho _ hne]; exact e3⟩
    · intro x' hx'
      by_cases hne : x' = x
      · rw [hne]; exact hf
      · rw [ho _ hne]
        refine h4 x' (fun e he hke => ?_)
        obtain ⟨i, hi⟩ := List.getElem?_of_mem he
        have hij : i ≠ j := fun e5 => by
          subst e5
          rw [hj] at hi
          injection hi with hi
          subst hi
          exact hne (hinj _ _ (hke.symm.trans hk))
        exact hx' e (by rw [hsub]; exact List.mem_eraseIdx_iff_getElem?.2 ⟨i, hij, hi⟩) hke
section
variable {ops : Array Oper} {rest : List Oper} {o : Oper} {a : Act} {Q : Exit → Act → World → Prop}
theorem exec_lookF {t e : TypeId} (K : Keyed P k) (hinj : ∀ x y, kv x = kv y → x = y) (ht : P.underlying t = some (.map k e)) {z : Value} (hz : (zeroValue e).run P w = .ok z w) (m v : Operand) (c : Bool) (hop : o.op = .lookup t m v c) (x : κ) {l : Lit} (hx : keyOf P k (kv x) = some l)
    (hm : a.eval m = .map (some b)) (hv : a.eval v = kv x) (h : MapF P k kv el w b n f) : (execOp a.eval o).run P w = .ok (.value (if c then .tuple #[((f x).map el).getD z, .bool (f x).isSome] else ((f x).map el).getD z)) w := by
  unfold execOp
  simp only [hop, hm, hv, Sem.run_bind, h.look K hinj ht hz c hx, Result.andThen_ok, Sem.run_pure]
theorem wpl_dropF {t e : TypeId} (hw : Region.wanted o (yielded ops a.tmps) = true) (K : Keyed P k) (hinj : ∀ x y, kv x = kv y → x = y) (ht : P.underlying t = some (.map k e)) (m v : Operand) (hop : o.op = .call { callee := .builtin .delete, args := #[m, v], argTypes := #[t, k] }) (x : κ) {l : Lit} (hx : keyOf P k (kv x) = some l)
    (hm : a.eval m = .map (some b)) (hv : a.eval v = kv x) (h : MapF P k kv el w b n f) (hf : f' x = none) (ho : ∀ x', x' ≠ x → f' x' = f x')
    (hK : ∀ w', MapF P k kv el w' b n f' → Kept (· = b) w w' → wpList P ops Q rest (a.put o.dst (.tuple #[])) w') : wpList P ops Q (o :: rest) a w := by
  unfold wpList
  rw [if_pos hw]
  refine .inl ?_
  obtain ⟨w', hrun, r1, r2⟩ := h.drop K hinj ht hx hf ho o.type
  unfold Oper.wp
  simp [execOp, hop, resolve, invoke, builtin, hm, hv, hrun, Result.andThen]
  exact hK w' r1 r2
end
end
end Go.Proofs.Ytajkajgnjcnolaa

