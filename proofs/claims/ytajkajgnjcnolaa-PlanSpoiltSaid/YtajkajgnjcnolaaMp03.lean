import Derived.Test.YtajkajgnjcnolaaMp01
import Derived.Test.YtajkajgnjcnolaaMp02
import Derived.Lib.MinMax
import Derived.Laws.OwnMore
import Derived.Deep.AppendLies
namespace Go.Proofs.Ytajkajgnjcnolaa
open Go.RowKit
set_option linter.unusedVariables false
set_option linter.unnecessarySimpa false
set_option linter.unusedSimpArgs false
section
variable {P : Program} {o : Oper} {a : Act} {w : World}
theorem exec_cellv {ty : TypeId} (x : Operand) (ho : o.op = .load ty x) (p : Addr) (hx : a.eval x = .pointer (some p)) (v : Value) {d : TypeDesc} (hu : P.underlying ty = some d) (hd : (match d with | .struct _ | .array _ _ => true | _ => false) = false) (hc : w.cell? p = some v) : (execOp a.eval o).run P w = .ok (.value v) w := by
  unfold execOp
  have ha : (isAgg ty).run P w = .ok false w := by
    cases d <;> simp_all [isAgg, run_underlying hu]
  simp only [ho, hx, Instr.loadAt, Instr.sureAddr, Sem.run_bind, Sem.run_pure, Result.andThen_ok, loadVar, ha]
  simp [hc]
theorem exec_max (x y : Operand) (ts : Array TypeId) (ho : o.op = .call { callee := .builtin .max, args := #[x, y], argTypes := ts }) (i j k : Int) (hx : a.eval x = .int .i64 i) (hy : a.eval y = .int .i64 j) (h : max i j = k) : (execOp a.eval o).run P w = .ok (.value (.int .i64 k)) w := by
  subst h
  unfold execOp
  simp [ho, hx, hy, resolve, invoke, builtin, Lib.run_max_ints]
theorem exec_min (x y : Operand) (ts : Array TypeId) (ho : o.op = .call { callee := .builtin .min, args := #[x, y], argTypes := ts }) (i j k : Int) (hx : a.eval x = .int .i64 i) (hy : a.eval y = .int .i64 j) (h : min i j = k) : (execOp a.eval o).run P w = .ok (.value (.int .i64 k)) w := by
  subst h
  unfold execOp
  simp [ho, hx, hy, resolve, invoke, builtin, Lib.run_min_ints]
theorem exec_len (x : Operand) {S E : TypeId} (ho : o.op = .call { callee := .builtin .len, args := #[x], argTypes := #[S] }) (hu : P.underlying S = some (.slice E)) (ad : Option Addr) (n c : Nat) (hx : a.eval x = .slice ad n c) : (execOp a.eval o).run P w = .ok (.value (.int .i64 (n : Nat))) w := by
  unfold execOp
  simp only [ho, resolve, invoke, builtin, Sem.run_bind, Sem.run_pure, Result.andThen_ok, List.map_toArray, List.map_cons, List.map_nil, hx]
  simp [Builtin.len_, run_underlying hu]
  rfl
end
theorem wpo_store {P : Program} {w : World} {o : Oper} {a : Act} {K : Act → World → Prop} {Q : Exit → Act → World → Prop} {ty : TypeId} (x y : Operand) (ho : o.op = .store ty x y) (g : Nat) (cs : Array Value) (hx : a.eval x = .pointer (some ⟨g, 0, none⟩)) (hy : a.eval y = .agg cs) (t : TypeId) (old : Array Value) (hg : Blk w g t old)
    (hi : (P.info? ty).map (·.size) = some cs.size) (hold : old.size = cs.size) (h1 : cs.all (·.oneCell') = true)
    (h : ∀ w', Blk w' g t cs → Kept (· = g) w w' → K (a.put o.dst undef) w') : Oper.wp P o a w K Q :=
  wp_store_row ty x y ho g cs hx hy t old hg hi hold h1 (h _ (Blk.setRow hg) ((Kept.refl (· = g) w).setRow rfl cs))
theorem kept_next {S : Nat → Prop} {u w w' : World} (h : Kept S u w) (hb : Below w.heap.size w w') : Kept S u w' := h.andThen (Kept.of_below (S := fun _ => False) hb) (fun _ _ h => h) (fun _ _ h => h.elim)
structure ElT (P : Program) (S E : TypeId) (z : Value) : Prop where
  und : P.underlying S = some (.slice E)
  info : ∃ i b, P.info? E = some i ∧ i.zero = some z ∧ i.size = 1 ∧ i.bytes = b ∧ b ≤ 16
  one : z.cells.size = 1
def zvals (zs : List Int) : List Value := zs.map fun z => Value.int .i64 z
section
variable {S : Nat → Prop} {w w' : World} {lo : Nat} {E : TypeId} {v : Value} {xs : List Value} {n : Nat}
theorem own_below (h : w.ownsRow lo E 1 v n xs) (hb : Below w.heap.size w w') : w'.ownsRow lo E 1 v n xs :=
  own_kept h (Kept.of_below (S := fun _ => False) hb) (fun _ _ h => h)
theorem own_cap {a : Option Addr} {m cap : Nat} (h : w.ownsRow lo E 1 (.slice a m cap) n xs) : m = n ∧ n ≤ cap ∧ cap ≤ maxLen := by
  rcases h.2 with ⟨h1, h2⟩ | ⟨g, c, cur, h1, _, _, h3, h4, _⟩
  · obtain ⟨_, rfl, rfl⟩ : a = none ∧ m = 0 ∧ cap = 0 := by simpa using h1
    exact ⟨by omega, by omega, Nat.zero_le _⟩
  · obtain ⟨_, rfl, rfl⟩ : a = some ⟨g, 0, none⟩ ∧ m = n ∧ cap = c := by simpa using h1
    exact ⟨rfl, h3, h4⟩
theorem own_at {a : Option Addr} {m cap : Nat} (h : w.ownsRow lo E 1 (.slice a m cap) n xs) (i : Nat) (hi : i < n) : ∃ g, a = some ⟨g, 0, none⟩ ∧ lo ≤ g ∧ g < w.heap.size ∧ w.cell? ⟨g, i, none⟩ = xs[i]? ∧ w.frozen? ⟨g, i, none⟩ = false := by
  obtain ⟨g, c, hv, h1, h2⟩ := h.form (by omega)
  obtain ⟨rfl, rfl, rfl⟩ : a = some ⟨g, 0, none⟩ ∧ m = n ∧ cap = c := by simpa using hv
  exact ⟨g, rfl, h1, h2, h.cellAt i (by omega), h.frozenAt i⟩
theorem own_same (h : w.ownsRow lo E 1 v n xs) (hk : ∀ g, v.ownBlock = some g → w'.heap[g]? = w.heap[g]?) : w'.ownsRow lo E 1 v n xs := by
  obtain ⟨h1, h2⟩ := h
  refine ⟨h1, ?_⟩
  rcases h2 with h2 | ⟨g, cap, cur, rfl, hg, hh, r⟩
  · exact .inl h2
  · exact .inr ⟨g, cap, cur, rfl, hg, (hk g rfl).trans hh, r⟩
theorem own_nil (lo : Nat) (E : TypeId) (w : World) : w.ownsRow lo E 1 (.slice none 0 0) 0 [] := ⟨by simp, .inl ⟨rfl, rfl⟩⟩
end
section
variable {P : Program} {w : World} {ops : Array Oper} {rest : List Oper} {o : Oper} {a : Act} {Q : Exit → Act → World → Prop} {S E : TypeId} {z : Value}
theorem wpl_appendV (T : ElT P S E z) (hgd : o.guard = none) (s x : Operand) (ho : o.op = .call { callee := .builtin .append, args := #[s, x], argTypes := #[S, S] })
    (base : Nat) (v : Value) (n : Nat) (xs : List Value) (hs : a.eval s = v) (hown : w.ownsRow base E 1 v n xs)
    (sp : Option Addr) (m c : Nat) (ds : List Value) (hx : a.eval x = .slice sp m c) (hl : ds.length = m) (hnil : sp = none → c = 0 ∧ m = 0) (hsrc : ∀ ad, sp = some ad → ∀ j u, ds[j]? = some u → w.cell? (ad.add j) = some u) (h1 : ∀ u ∈ ds, u.oneCell' = true)
    (h63 : n + m ≤ 1000000000000) (hbase : base ≤ w.heap.size)
    (h : ∀ v' w', w'.ownsRow base E 1 v' (n + m) (xs ++ ds) → w.grownBy w' v.ownBlock → (v'.ownBlock = v.ownBlock ∨ v'.ownBlock = some w.heap.size) → wpList P ops Q rest (a.put o.dst v') w') : wpList P ops Q (o :: rest) a w := by
  obtain ⟨i0, b0, hi, hz0, hz1, hz2, hz3⟩ := T.info
  cases sp with
  | none =>
    obtain ⟨rfl, rfl⟩ := hnil rfl
    obtain rfl : ds = [] := List.length_eq_zero_iff.1 hl
    refine wpList_append_own_none hgd s x S ho base E i0 1 T.und hi v n xs hs hown hx (h _ _ ?_ ?_ (.inl rfl))
    · simpa using hown
    · exact ⟨rfl, rfl, rfl, Nat.le_refl _, fun _ _ _ => rfl⟩
  | some ad =>
    have hb : (n + m) * b0 ≤ (n + m) * 16 := Nat.mul_le_mul_left _ hz3
    refine wpList_append_own_at w hgd s x S ho base E i0 z 1 b0 T.und hi hz0 hz1 hz2 T.one (by decide) v n xs hs hown ad m c ds hx
      (by omega) (hsrc ad rfl) h1 (by unfold maxLen; omega) (by omega) hbase ?_
    intro v' w' h1 h2 _ h4
    exact h v' w' h1 h2 h4
end
section
variable {P : Program} {o : Oper} {a : Act} {w : World} {S E : TypeId} {z : Value}
end
structure ZoR where
  size : Int
  safe : Int
  fin : Bool
  failed : Int
  xs : List Value
def zoA (z : ZoR) (v : Value) : Array Value := #[.int .i64 z.size, v, .int .i64 z.safe, .bool z.fin, .int .i64 z.failed]
structure ZAt (T E : TypeId) (lo : Nat) (w : World) (A : Nat) (v : Value) (z : ZoR) : Prop where
  blk : Blk w A T (zoA z v)
  own : w.ownsRow lo E 1 v z.xs.length z.xs
  le : lo ≤ A
def ZF (A : Nat) (v : Value) (k : Nat) : Prop := k = A ∨ v.ownBlock = some k
section
variable {S : Nat → Prop} {T E : TypeId} {lo A : Nat} {w w' : World} {v : Value} {z z' : ZoR}
theorem ZAt.kept (h : ZAt T E lo w A v z) (k : Kept S w w') (hn : ∀ i, ZF A v i → ¬ S i) : ZAt T E lo w' A v z :=
  ⟨h.blk.kept k (hn A (.inl rfl)), own_kept h.own k (fun g hg => hn g (.inr hg)), h.le⟩
theorem ZAt.below (h : ZAt T E lo w A v z) (hb : Below w.heap.size w w') : ZAt T E lo w' A v z := h.kept (Kept.of_below (S := fun _ => False) hb) (fun _ _ h => h)
theorem ZAt.lt (h : ZAt T E lo w A v z) {k : Nat} (hk : ZF A v k) : k < w.heap.size := by
  rcases hk with rfl | hk
  · exact h.blk.lt
  · exact own_lt h.own hk
theorem ZAt.slice (h : ZAt T E lo w A v z) : ∃ a cap, v = .slice a z.xs.length cap ∧ z.xs.length ≤ cap ∧ cap ≤ maxLen := by
  obtain ⟨a, cap, rfl⟩ := own_slice h.own
  exact ⟨a, cap, rfl, (own_cap h.own).2⟩
theorem ZAt.lov (h : ZAt T E lo w A v z) {k : Nat} (hk : ZF A v k) : lo ≤ k := by
  rcases hk with rfl | hk
  · exact h.le
  · rcases h.own.2 with ⟨rfl, _⟩ | ⟨g, c, cur, rfl, hg, _⟩
    · simp [Value.ownBlock] at hk
    · obtain rfl : g = k := by simpa [Value.ownBlock] using hk
      exact hg
def ZTo (T E : TypeId) (lo : Nat) (w : World) (A : Nat) (v : Value) (z' : ZoR) (w' : World) : Prop :=
  ∃ v', ZAt T E lo w' A v' z' ∧ Kept (ZF A v) w w' ∧ ∀ g, v'.ownBlock = some g → v.ownBlock = some g ∨ w.heap.size ≤ g
theorem ZTo.same (h : ZAt T E lo w A v z) (hb : Below w.heap.size w w') : ZTo T E lo w A v z w' := ⟨v, h.below hb, Kept.of_below hb, fun _ h => .inl h⟩
theorem ZTo.below {w1 : World} (h : ZTo T E lo w A v z w1) (hb : Below w1.heap.size w1 w') : ZTo T E lo w A v z w' := by
  obtain ⟨v', h1, h2, h3⟩ := h
  exact ⟨v', h1.below hb, h2.andThen (Kept.of_below (S := fun _ => False) hb) (fun _ _ h => h) (fun _ _ h => h.elim), h3⟩
theorem ZTo.after {w1 : World} (hb : Below w.heap.size w w1) (h : ZTo T E lo w1 A v z w') : ZTo T E lo w A v z w' := by
  obtain ⟨v', h1, h2, h3⟩ := h
  refine ⟨v', h1, (Kept.of_below (S := fun _ => False) hb).andThen h2 (fun _ _ h => h.elim) (fun _ _ h => h), fun g hg => ?_⟩
  rcases h3 g hg with h | h
  · exact .inl h
  · exact .inr (Nat.le_trans hb.size h)
theorem ZTo.step {w1 w2 : World} {v1 : Value} {z2 : ZoR} (h2 : Kept (ZF A v) w w1) (h3 : ∀ g, v1.ownBlock = some g → v.ownBlock = some g ∨ w.heap.size ≤ g) (k : ZTo T E lo w1 A v1 z2 w2) : ZTo T E lo w A v z2 w2 := by
  obtain ⟨v2, k1, k2, k3⟩ := k
  refine ⟨v2, k1, h2.andThen k2 (fun _ _ h => h) (fun i hi hz => ?_), fun g hg => ?_⟩
  · rcases hz with rfl | hz
    · exact .inl rfl
    · rcases h3 i hz with h | h
      · exact .inr h
      · omega
  · rcases k3 g hg with h | h
    · exact h3 g h
    · exact .inr (Nat.le_trans h2.size h)
theorem ZTo.blk (h : ZTo T E lo w A v z' w') (hz : ZAt T E lo w A v z) {g : Nat} {t : TypeId} {cs : Array Value} (hb : Blk w g t cs) (h1 : t ≠ T) (h2 : t ≠ E) : Blk w' g t cs := by
  obtain ⟨v', _, k, _⟩ := h
  refine hb.kept k (fun hS => ?_)
  rcases hS with e | e
  · exact Blk.unlike hb hz.blk h1 e
  · exact own_unlike hz.own hb (fun e => h2 e.symm) e.symm
theorem ZTo.row (h : ZTo T E lo w A v z' w') (hz : ZAt T E lo w A v z) {u : Value} {n : Nat} {ys : List Value} {E' : TypeId} (hu : w.ownsRow lo E' 1 u n ys) (hT : E' ≠ T) (hs : ∀ g, u.ownBlock = some g → v.ownBlock ≠ some g) :
    ∃ v', ZAt T E lo w' A v' z' ∧ Kept (ZF A v) w w' ∧ w'.ownsRow lo E' 1 u n ys ∧ ∀ g, u.ownBlock = some g → v'.ownBlock ≠ some g := by
  obtain ⟨v', k1, k2, k3⟩ := h
  refine ⟨v', k1, k2, own_kept hu k2 (fun g hg hS => ?_), fun g hg e => ?_⟩
  · rcases hS with rfl | e
    · exact own_unlike hu hz.blk hT hg.symm
    · exact hs g hg e
  · rcases k3 g e with h | h
    · exact hs g hg h
    · have := own_lt hu hg; omega
end
theorem results_cell_slot2 {P : Program} {fn : Func} {p q q' : Tmp} {ty : TypeId} (h : fn.results = #[.cell p ty, .tmp q, .tmp q']) (tmps : Array Value) (w : World) (g : Nat) (t : TypeId) (cs : Array Value) (v v' : Value) (d : TypeDesc)
    (hp : tmps.getD p undef = .pointer (some ⟨g, 0, none⟩)) (hq : tmps.getD q undef = v) (hq' : tmps.getD q' undef = v') (hg : Blk w g t cs)
    (hu : P.underlying ty = some d) (hd : (match d with | .struct _ | .array _ _ => true | _ => false) = true) (hi : (P.info? ty).map (·.size) = some cs.size) :
    (results fn tmps).run P w = .ok (.tuple #[.agg cs, v, v']) w := by
  have hp' : tmps[p]?.getD undef = .pointer (some ⟨g, 0, none⟩) := by simpa using hp
  have hq1 : tmps[q]?.getD undef = v := by simpa using hq
  have hq2 : tmps[q']?.getD undef = v' := by simpa using hq'
  simp [results, h, hp', hq1, hq2, asAddr, run_loadVar_row w g t ty cs (0, 0) d hg hu hd hi]
structure RfR where
  size : Int
  safe : Int
  state : Int
  fin : Bool
  zs : List Int
def rfA (r : RfR) (u : Value) : Array Value := #[u, .int .i64 r.size, .int .i64 r.safe, .int .i64 r.state, .bool r.fin]
structure RfS (T E : TypeId) (lo : Nat) (w0 : World) (r : RfR) (u : Value) (q : Array Value) (w : World) : Prop where
  x : Blk w w0.heap.size T (rfA r u)
  g : Blk w (w0.heap.size + 1) T q
  b : Below w0.heap.size w0 w
  own : w.ownsRow lo E 1 u r.zs.length (zvals r.zs)
def rfZ : Array Value := #[.slice none 0 0, .int .i64 0, .int .i64 0, .int .i64 0, .bool false]
section
variable {T E : TypeId} {lo : Nat} {w0 w w' : World} {r r' : RfR} {u u' : Value} {q : Array Value}
theorem RfS.start (h : w.ownsRow lo E 1 u r.zs.length (zvals r.zs)) : RfS T E lo w r u rfZ ((w.alloc (Obj.cells (rfA r u) T)).alloc (Obj.cells rfZ T)) := by
  have hb := bthen (below_alloc w (Obj.cells (rfA r u) T)) (below_alloc _ (Obj.cells rfZ T))
  have hg := Blk.new (w.alloc (Obj.cells (rfA r u) T)) T rfZ
  rw [show (w.alloc (Obj.cells (rfA r u) T)).heap.size = w.heap.size + 1 by simp] at hg
  exact ⟨(Blk.new w T (rfA r u)).alloc _, hg, hb, own_below h hb⟩
theorem RfS.below (h : RfS T E lo w0 r u q w) (hb : Below w.heap.size w w') : RfS T E lo w0 r u q w' := ⟨h.x.below hb h.x.lt, h.g.below hb h.g.lt, bthen h.b hb, own_below h.own hb⟩
theorem RfS.set (h : RfS T E lo w0 r u q w) (hT : E ≠ T) (i : Nat) (v : Value) (hr : (rfA r u).setIfInBounds i v = rfA r' u) (hz : r'.zs = r.zs) : RfS T E lo w0 r' u q (w.setCell ⟨w0.heap.size, i, none⟩ v) := by
  have hx := h.x.set i v
  rw [hr] at hx
  refine ⟨hx, h.g.far (by simp) _, h.b.setCell (p := ⟨w0.heap.size, i, none⟩) (Nat.le_refl _) _, ?_⟩
  rw [hz]
  exact own_same h.own (fun g hg => Below.heap_setCell _ _ _ _ (fun e => own_unlike h.own h.x hT (by rw [hg]; exact congrArg some e.symm)))
theorem RfS.out {q' : Array Value} (h : RfS T E lo w0 r u q w) (hT : E ≠ T) (hg : Blk w' (w0.heap.size + 1) T q') (hk : Kept (· = w0.heap.size + 1) w w') : RfS T E lo w0 r u q' w' :=
  ⟨h.x.kept hk (by simp), hg, bkept h.b (Nat.le_refl _) hk (fun i hi e => by omega), own_kept h.own hk (fun g hg' e => own_unlike h.own h.g hT (by rw [hg']; exact congrArg some e.symm))⟩
theorem RfS.far (h : RfS T E lo w0 r u q w) {p : Addr} (h1 : w0.heap.size + 1 < p.block) (h2 : u.ownBlock ≠ some p.block) (v : Value) : RfS T E lo w0 r u q (w.setCell p v) :=
  ⟨h.x.far (by omega) _, h.g.far (by omega) _, h.b.setCell (by omega) _, own_same h.own (fun g hg => Below.heap_setCell _ _ _ _ (fun e => h2 (by rw [hg]; exact congrArg some e)))⟩
theorem RfS.grown {w2 : World} {row : Option Nat} (h : RfS T E lo w0 r u q w) (hg : w.grownBy w2 row) (hn : ∀ g, row = some g → w0.heap.size + 1 < g ∧ u.ownBlock ≠ some g) : RfS T E lo w0 r u q w2 :=
  ⟨h.x.grown hg (fun e => by have := (hn _ e.symm).1; omega), h.g.grown hg (fun e => by have := (hn _ e.symm).1; omega), h.b.grown hg h.b.size (fun k e => by have := (hn _ e).1; omega),
    own_same h.own (fun g hg' => hg.block g (own_lt h.own hg') (fun e => (hn g e.symm).2 hg'))⟩
end
def refI (z : ZoR) : Int := if z.failed = 4 then 32 else if z.failed = 3 then 30 else 0
def stI (z : ZoR) : Int := if z.failed ≠ 0 then z.failed else if z.fin = true ∨ (z.xs.length : Int) = z.size then 2 else if (z.xs.length : Int) = 0 then 0 else 1
end Go.Proofs.Ytajkajgnjcnolaa

namespace Go.Proofs.Ytajkajgnjcnolaa
open Go.RowKit
set_option linter.unusedVariables false
set_option linter.unnecessarySimpa false
set_option linter.unusedSimpArgs false
def flat (ss : List (List Nat)) : List Value := (ss.map bvals).flatten
theorem flat_length {ss : List (List Nat)} (h : ∀ s ∈ ss, s.length = 64) : (flat ss).length = ss.length * 64 := by
  induction ss with
  | nil => rfl
  | cons s ss ih =>
    have h1 := h s (by simp)
    have h2 := ih (fun t ht => h t (by simp [ht]))
    unfold flat at *
    simp only [List.map_cons, List.flatten_cons, List.length_append, bvals_length, List.length_cons, h1, h2]
    omega
theorem flat_append (a b : List (List Nat)) : flat (a ++ b) = flat a ++ flat b := by simp [flat]
theorem flat_one (s : List Nat) : flat [s] = bvals s := by simp [flat]
theorem flat_ones (ss : List (List Nat)) : ∀ u ∈ flat ss, u.oneCell' = true := by
  intro u hu
  unfold flat at hu
  obtain ⟨l, hl, hu⟩ := List.mem_flatten.1 hu
  obtain ⟨s, _, rfl⟩ := List.mem_map.1 hl
  exact bvals_one s u hu
theorem flat_take {ss : List (List Nat)} (h : ∀ s ∈ ss, s.length = 64) (n : Nat) : (flat ss).take (n * 64) = flat (ss.take n) := by
  induction ss generalizing n with
  | nil => simp [flat]
  | cons s ss ih =>
    cases n with
    | zero => simp [flat]
    | succ n =>
      have h1 := h s (by simp)
      have h2 := ih (fun t ht => h t (by simp [ht])) n
      unfold flat at *
      simp only [List.map_cons, List.flatten_cons, List.take_succ_cons]
      rw [List.take_append, List.take_of_length_le (by rw [bvals_length, h1]; omega), bvals_length, h1, show (n + 1) * 64 - 64 = n * 64 by omega, h2]
theorem flat_at {ss : List (List Nat)} (h : ∀ s ∈ ss, s.length = 64) (i : Nat) (hi : i < ss.length) (j : Nat) (hj : j < 64) : (flat ss)[i * 64 + j]? = (bvals (ss.getD i []))[j]? := by
  induction ss generalizing i with
  | nil => simp at hi
  | cons s ss ih =>
    have h1 := h s (by simp)
    unfold flat at *
    simp only [List.map_cons, List.flatten_cons]
    cases i with
    | zero =>
      rw [Nat.zero_mul, Nat.zero_add, List.getElem?_append_left (by rw [bvals_length, h1]; exact hj)]
      rfl
    | succ i =>
      rw [List.getElem?_append_right (by rw [bvals_length, h1]; omega), bvals_length, h1, show (i + 1) * 64 + j - 64 = i * 64 + j by omega]
      exact ih (fun t ht => h t (by simp [ht])) i (by simpa using hi)
section
variable {S : Nat → Prop} {w w' : World} {lo sz : Nat} {E : TypeId} {v : Value} {xs : List Value} {n : Nat}
theorem ownK_below (h : w.ownsRow lo E sz v n xs) (hb : Below w.heap.size w w') : w'.ownsRow lo E sz v n xs :=
  own_kept h (Kept.of_below (S := fun _ => False) hb) (fun _ _ h => h)
theorem ownK_cap {a : Option Addr} {m cap : Nat} (h : w.ownsRow lo E sz (.slice a m cap) n xs) : m = n ∧ n ≤ cap ∧ cap ≤ maxLen := by
  rcases h.2 with ⟨h1, h2⟩ | ⟨g, c, cur, h1, _, _, h3, h4, _⟩
  · obtain ⟨_, rfl, rfl⟩ : a = none ∧ m = 0 ∧ cap = 0 := by simpa using h1
    exact ⟨by omega, by omega, Nat.zero_le _⟩
  · obtain ⟨_, rfl, rfl⟩ : a = some ⟨g, 0, none⟩ ∧ m = n ∧ cap = c := by simpa using h1
    exact ⟨rfl, h3, h4⟩
theorem ownK_same (h : w.ownsRow lo E sz v n xs) (hk : ∀ g, v.ownBlock = some g → w'.heap[g]? = w.heap[g]?) : w'.ownsRow lo E sz v n xs := by
  obtain ⟨h1, h2⟩ := h
  refine ⟨h1, ?_⟩
  rcases h2 with h2 | ⟨g, cap, cur, rfl, hg, hh, r⟩
  · exact .inl h2
  · exact .inr ⟨g, cap, cur, rfl, hg, (hk g rfl).trans hh, r⟩
theorem ownK_nil (lo : Nat) (E : TypeId) (sz : Nat) (w : World) : w.ownsRow lo E sz (.slice none 0 0) 0 [] := ⟨by simp, .inl ⟨rfl, rfl⟩⟩
theorem ownK_form {a : Option Addr} {m cap : Nat} (h : w.ownsRow lo E sz (.slice a m cap) n xs) (hn : 0 < n) : ∃ g, a = some ⟨g, 0, none⟩ ∧ lo ≤ g ∧ g < w.heap.size := by
  obtain ⟨g, c, hv, h1, h2⟩ := h.form hn
  obtain ⟨rfl, _⟩ : a = some ⟨g, 0, none⟩ ∧ _ := by simpa using hv
  exact ⟨g, rfl, h1, h2⟩
theorem ownK_src {a : Option Addr} {m cap : Nat} (h : w.ownsRow lo E sz (.slice a m cap) n xs) : (a = none → cap = 0 ∧ m = 0) ∧ ∀ ad, a = some ad → ∀ j u, xs[j]? = some u → w.cell? (ad.add j) = some u := by
  refine ⟨fun e => ?_, fun ad e j u hu => ?_⟩
  · subst e
    rcases h.2 with ⟨h1, h2⟩ | ⟨g, c, cur, h1, _⟩
    · obtain ⟨rfl, rfl⟩ : m = 0 ∧ cap = 0 := by simpa using h1
      exact ⟨rfl, rfl⟩
    · simp at h1
  · subst e
    have hm := (ownK_cap h).1
    subst hm
    have hj : j < m * sz := by
      have hl := h.1
      by_cases hj : j < xs.length
      · omega
      · rw [List.getElem?_eq_none (by omega)] at hu; cases hu
    obtain ⟨g, hg, _, _⟩ := ownK_form h (by by_cases h0 : 0 < m; · exact h0
                                            · obtain rfl : m = 0 := by omega
                                              simp at hj)
    obtain rfl : ad = ⟨g, 0, none⟩ := by simpa using hg
    have hadd : (⟨g, 0, none⟩ : Addr).add j = ⟨g, j, none⟩ := by have := Addr.add_mid g 0 j; rwa [Nat.zero_add] at this
    rw [hadd, h.cellAt j hj, hu]
end
structure ElS (P : Program) (S E : TypeId) : Prop where
  und : P.underlying S = some (.slice E)
  info : ∃ i z, P.info? E = some i ∧ i.zero = some z ∧ i.size = 64 ∧ i.bytes = 64 ∧ z.cells.size = 64
section
variable {P : Program} {w : World} {ops : Array Oper} {rest : List Oper} {o : Oper} {a : Act} {K : Act → World → Prop} {Q : Exit → Act → World → Prop} {S E : TypeId}
theorem wpo_appendS (T : ElS P S E) (s x : Operand) (ho : o.op = .call { callee := .builtin .append, args := #[s, x], argTypes := #[S, S] })
    (base : Nat) (v : Value) (n : Nat) (xs : List Value) (hs : a.eval s = v) (hown : w.ownsRow base E 64 v n xs)
    (sp : Option Addr) (m c : Nat) (ds : List Value) (hx : a.eval x = .slice sp m c) (hl : ds.length = m * 64) (hnil : sp = none → c = 0 ∧ m = 0) (hsrc : ∀ ad, sp = some ad → ∀ j u, ds[j]? = some u → w.cell? (ad.add j) = some u) (h1 : ∀ u ∈ ds, u.oneCell' = true)
    (h63 : n + m ≤ 100000000000) (hbase : base ≤ w.heap.size)
    (h : ∀ v' w', w'.ownsRow base E 64 v' (n + m) (xs ++ ds) → w.grownBy w' v.ownBlock → (v'.ownBlock = v.ownBlock ∨ v'.ownBlock = some w.heap.size) → K (a.put o.dst v') w') : Oper.wp P o a w K Q := by
  obtain ⟨i0, z0, hi, hz0, hz1, hz2, hz3⟩ := T.info
  cases sp with
  | none =>
    obtain ⟨rfl, rfl⟩ := hnil rfl
    obtain rfl : ds = [] := List.length_eq_zero_iff.1 (by omega)
    have hr := run_append_owned_none (P := P) w base S o.type E i0 64 T.und hi v n xs hown
    unfold Oper.wp execOp
    simp only [ho, resolve, invoke, builtin, Sem.run_bind, Sem.run_pure, Result.andThen_ok, List.map_toArray, List.map_cons, List.map_nil, hs, hx, hr]
    exact h v w (by simpa using hown) ⟨rfl, rfl, rfl, Nat.le_refl _, fun _ _ _ => rfl⟩ (.inl rfl)
  | some ad =>
    obtain ⟨v', w', hr, h2, h3, _, h5⟩ := run_append_own_at (P := P) w base S o.type E i0 z0 64 64 T.und hi hz0 hz1 hz2 hz3 (by decide) v n xs hown ad m c ds (by omega) (hsrc ad rfl) h1 (by unfold maxLen; omega) (by omega) hbase
    unfold Oper.wp execOp
    simp only [ho, resolve, invoke, builtin, Sem.run_bind, Sem.run_pure, Result.andThen_ok, List.map_toArray, List.map_cons, List.map_nil, hs, hx, hr]
    exact h v' w' h2 h3 h5
theorem exec_indexS (T : ElS P S E) (x ix : Operand) (ho : o.op = .indexAddr S x ix) (g n c i : Nat) (hx : a.eval x = .slice (some ⟨g, 0, none⟩) n c) (hix : a.eval ix = .int .i64 (i : Nat)) (hi : i < n) : (execOp a.eval o).run P w = .ok (.value (.pointer (some ⟨g, i * 64, none⟩))) w := by
  obtain ⟨i0, z0, hi0, hz0, hz1, hz2, hz3⟩ := T.info
  have hb : (0 : Int) ≤ (i : Nat) ∧ ((i : Nat) : Int) < (n : Nat) := by omega
  have hadd : (⟨g, 0, none⟩ : Addr).add (i * 64) = ⟨g, i * 64, none⟩ := by have := Addr.add_mid g 0 (i * 64); rwa [Nat.zero_add] at this
  unfold execOp
  simp only [ho, hx, hix]
  simp [Instr.indexAt, asIntOf, run_underlying T.und, sizeOf, typeInfo, hi0, hb, hz1, hadd, hi]
end
structure ZsR where
  size : Int
  safe : Int
  fin : Bool
  failed : Int
  ss : List (List Nat)
def zsA (z : ZsR) (v : Value) : Array Value := #[.int .i64 z.size, v, .int .i64 z.safe, .bool z.fin, .int .i64 z.failed]
structure ZsOk (z : ZsR) : Prop where
  size : 1 ≤ z.size ∧ z.size ≤ 64
  len : (z.ss.length : Int) ≤ z.size
  safe : 0 ≤ z.safe ∧ z.safe ≤ (z.ss.length : Int)
  failed : z.failed = 0 ∨ z.failed = 3 ∨ z.failed = 4
  w64 : ∀ s ∈ z.ss, s.length = 64
  lt : ∀ s ∈ z.ss, ∀ c ∈ s, c < 256
structure ZsAt (T E : TypeId) (lo : Nat) (w : World) (A : Nat) (v : Value) (z : ZsR) : Prop where
  blk : Blk w A T (zsA z v)
  own : w.ownsRow lo E 64 v z.ss.length (flat z.ss)
  le : lo ≤ A
section
variable {S : Nat → Prop} {T E : TypeId} {lo A : Nat} {w w' : World} {v : Value} {z z' : ZsR}
theorem ZsAt.kept (h : ZsAt T E lo w A v z) (k : Kept S w w') (hn : ∀ i, ZF A v i → ¬ S i) : ZsAt T E lo w' A v z :=
  ⟨h.blk.kept k (hn A (.inl rfl)), own_kept h.own k (fun g hg => hn g (.inr hg)), h.le⟩
theorem ZsAt.below (h : ZsAt T E lo w A v z) (hb : Below w.heap.size w w') : ZsAt T E lo w' A v z := h.kept (Kept.of_below (S := fun _ => False) hb) (fun _ _ h => h)
theorem ZsAt.lt (h : ZsAt T E lo w A v z) {k : Nat} (hk : ZF A v k) : k < w.heap.size := by
  rcases hk with rfl | hk
  · exact h.blk.lt
  · exact own_lt h.own hk
theorem ZsAt.slice (h : ZsAt T E lo w A v z) : ∃ a cap, v = .slice a z.ss.length cap ∧ z.ss.length ≤ cap ∧ cap ≤ maxLen := by
  obtain ⟨a, cap, rfl⟩ := own_slice h.own
  exact ⟨a, cap, rfl, (ownK_cap h.own).2⟩
theorem ZsAt.lov (h : ZsAt T E lo w A v z) {k : Nat} (hk : ZF A v k) : lo ≤ k := by
  rcases hk with rfl | hk
  · exact h.le
  · rcases h.own.2 with ⟨rfl, _⟩ | ⟨g, c, cur, rfl, hg, _⟩
    · simp [Value.ownBlock] at hk
    · obtain rfl : g = k := by simpa [Value.ownBlock] using hk
      exact hg
def ZsTo (T E : TypeId) (lo : Nat) (w : World) (A : Nat) (v : Value) (z' : ZsR) (w' : World) : Prop :=
  ∃ v', ZsAt T E lo w' A v' z' ∧ Kept (ZF A v) w w' ∧ ∀ g, v'.ownBlock = some g → v.ownBlock = some g ∨ w.heap.size ≤ g
theorem ZsTo.same (h : ZsAt T E lo w A v z) (hb : Below w.heap.size w w') : ZsTo T E lo w A v z w' := ⟨v, h.below hb, Kept.of_below hb, fun _ h => .inl h⟩
theorem ZsTo.below {w1 : World} (h : ZsTo T E lo w A v z w1) (hb : Below w1.heap.size w1 w') : ZsTo T E lo w A v z w' := by
  obtain ⟨v', h1, h2, h3⟩ := h
  exact ⟨v', h1.below hb, h2.andThen (Kept.of_below (S := fun _ => False) hb) (fun _ _ h => h) (fun _ _ h => h.elim), h3⟩
theorem ZsTo.after {w1 : World} (hb : Below w.heap.size w w1) (h : ZsTo T E lo w1 A v z w') : ZsTo T E lo w A v z w' := by
  obtain ⟨v', h1, h2, h3⟩ := h
  refine ⟨v', h1, (Kept.of_below (S := fun _ => False) hb).andThen h2 (fun _ _ h => h.elim) (fun _ _ h => h), fun g hg => ?_⟩
  rcases h3 g hg with h | h
  · exact .inl h
  · exact .inr (Nat.le_trans hb.size h)
theorem ZsTo.step {w1 w2 : World} {v1 : Value} {z2 : ZsR} (h2 : Kept (ZF A v) w w1) (h3 : ∀ g, v1.ownBlock = some g → v.ownBlock = some g ∨ w.heap.size ≤ g) (k : ZsTo T E lo w1 A v1 z2 w2) : ZsTo T E lo w A v z2 w2 := by
  obtain ⟨v2, k1, k2, k3⟩ := k
  refine ⟨v2, k1, h2.andThen k2 (fun _ _ h => h) (fun i hi hz => ?_), fun g hg => ?_⟩
  · rcases hz with rfl | hz
    · exact .inl rfl
    · rcases h3 i hz with h | h
      · exact .inr h
      · omega
  · rcases k3 g hg with h | h
    · exact h3 g h
    · exact .inr (Nat.le_trans h2.size h)
theorem ZsTo.blk (h : ZsTo T E lo w A v z' w') (hz : ZsAt T E lo w A v z) {g : Nat} {t : TypeId} {cs : Array Value} (hb : Blk w g t cs) (h1 : t ≠ T) (h2 : t ≠ E) : Blk w' g t cs := by
  obtain ⟨v', _, k, _⟩ := h
  refine hb.kept k (fun hS => ?_)
  rcases hS with e | e
  · exact Blk.unlike hb hz.blk h1 e
  · exact own_unlike hz.own hb (fun e => h2 e.symm) e.symm
theorem ZsTo.row (h : ZsTo T E lo w A v z' w') (hz : ZsAt T E lo w A v z) {u : Value} {n : Nat} {ys : List Value} {E' : TypeId} {sz : Nat} (hu : w.ownsRow lo E' sz u n ys) (hT : E' ≠ T) (hs : ∀ g, u.ownBlock = some g → v.ownBlock ≠ some g) :
    ∃ v', ZsAt T E lo w' A v' z' ∧ Kept (ZF A v) w w' ∧ w'.ownsRow lo E' sz u n ys ∧ ∀ g, u.ownBlock = some g → v'.ownBlock ≠ some g := by
  obtain ⟨v', k1, k2, k3⟩ := h
  refine ⟨v', k1, k2, own_kept hu k2 (fun g hg hS => ?_), fun g hg e => ?_⟩
  · rcases hS with rfl | e
    · exact own_unlike hu hz.blk hT hg.symm
    · exact hs g hg e
  · rcases k3 g e with h | h
    · exact hs g hg h
    · have := own_lt hu hg; omega
end
def refS (z : ZsR) : Int := if z.failed = 4 then 32 else if z.failed = 3 then 30 else 0
def stS (z : ZsR) : Int := if z.failed ≠ 0 then z.failed else if z.fin = true ∨ (z.ss.length : Int) = z.size then 2 else if (z.ss.length : Int) = 0 then 0 else 1
def holS (z : ZsR) (off : Int) : Bool := decide (0 ≤ off) && decide (off < (z.ss.length : Int))
end Go.Proofs.Ytajkajgnjcnolaa

