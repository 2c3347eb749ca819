/-
  Layer 6 (zone): own rows of values, one cell each; a zone as it reads (ZoR, ZAt); what a step of it leaves (ZTo); steps of regions over cells of any kind.
-/
import Derived.Test.YtcdfolphbabaoaaBaseA
import Derived.Test.YtcdfolphbabaoaaBaseS
import Derived.Lib.MinMax
import Derived.Laws.OwnMore
import Derived.Deep.AppendLies
namespace Go.Proofs.Ytcdfolphbabaoaa
open Go.RowKit
set_option linter.unusedVariables false
set_option linter.unnecessarySimpa false
set_option linter.unusedSimpArgs false

section
variable {P : Program} {o : Oper} {a : Act} {w : World}
/-- A cell of any plain kind that is read. -/
theorem exec_cellv {ty : TypeId} (x : Operand) (ho : o.op = .load ty x) (p : Addr) (hx : a.eval x = .pointer (some p)) (v : Value) {d : TypeDesc} (hu : P.underlying ty = some d) (hd : (match d with | .struct _ | .array _ _ => true | _ => false) = false) (hc : w.cell? p = some v) : (execOp a.eval o).run P w = .ok (.value v) w := by
  unfold execOp
  have ha : (isAgg ty).run P w = .ok false w := by
    cases d <;> simp_all [isAgg, run_underlying hu]
  simp only [ho, hx, Instr.loadAt, Instr.sureAddr, Sem.run_bind, Sem.run_pure, Result.andThen_ok, loadVar, ha]
  simp [hc]
theorem exec_max (x y : Operand) (ts : Array TypeId) (ho : o.op = .call { callee := .builtin .max, args := #[x, y], argTypes := ts }) (i j k : Int) (hx : a.eval x = .int .i64 i) (hy : a.eval y = .int .i64 j) (h : max i j = k) : (execOp a.eval o).run P w = .ok (.value (.int .i64 k)) w := by
  subst h
  unfold execOp
  simp [ho, hx, hy, resolve, invoke, builtin, Lib.run_max_ints]
theorem exec_min (x y : Operand) (ts : Array TypeId) (ho : o.op = .call { callee := .builtin .min, args := #[x, y], argTypes := ts }) (i j k : Int) (hx : a.eval x = .int .i64 i) (hy : a.eval y = .int .i64 j) (h : min i j = k) : (execOp a.eval o).run P w = .ok (.value (.int .i64 k)) w := by
  subst h
  unfold execOp
  simp [ho, hx, hy, resolve, invoke, builtin, Lib.run_min_ints]
/-- The length of a slice. -/
theorem exec_len (x : Operand) {S E : TypeId} (ho : o.op = .call { callee := .builtin .len, args := #[x], argTypes := #[S] }) (hu : P.underlying S = some (.slice E)) (ad : Option Addr) (n c : Nat) (hx : a.eval x = .slice ad n c) : (execOp a.eval o).run P w = .ok (.value (.int .i64 (n : Nat))) w := by
  unfold execOp
  simp only [ho, resolve, invoke, builtin, Sem.run_bind, Sem.run_pure, Result.andThen_ok, List.map_toArray, List.map_cons, List.map_nil, hx]
  simp [Builtin.len_, run_underlying hu]
  rfl
end

/-- A struct or an array is written whole, as one operation. -/
theorem wpo_store {P : Program} {w : World} {o : Oper} {a : Act} {K : Act → World → Prop} {Q : Exit → Act → World → Prop} {ty : TypeId} (x y : Operand) (ho : o.op = .store ty x y) (g : Nat) (cs : Array Value) (hx : a.eval x = .pointer (some ⟨g, 0, none⟩)) (hy : a.eval y = .agg cs) (t : TypeId) (old : Array Value) (hg : Blk w g t old)
    (hi : (P.info? ty).map (·.size) = some cs.size) (hold : old.size = cs.size) (h1 : cs.all (·.oneCell') = true)
    (h : ∀ w', Blk w' g t cs → Kept (· = g) w w' → K (a.put o.dst undef) w') : Oper.wp P o a w K Q :=
  wp_store_row ty x y ho g cs hx hy t old hg hi hold h1 (h _ (Blk.setRow hg) ((Kept.refl (· = g) w).setRow rfl cs))
theorem kept_next {S : Nat → Prop} {u w w' : World} (h : Kept S u w) (hb : Below w.heap.size w w') : Kept S u w' := h.andThen (Kept.of_below (S := fun _ => False) hb) (fun _ _ h => h) (fun _ _ h => h.elim)
/-- Elements of one cell, and slices of them. -/
structure ElT (P : Program) (S E : TypeId) (z : Value) : Prop where
  und : P.underlying S = some (.slice E)
  info : ∃ i b, P.info? E = some i ∧ i.zero = some z ∧ i.size = 1 ∧ i.bytes = b ∧ b ≤ 16
  one : z.cells.size = 1

/-- Ints as values. -/
def zvals (zs : List Int) : List Value := zs.map fun z => Value.int .i64 z
theorem zvals_length (zs : List Int) : (zvals zs).length = zs.length := by simp [zvals]
theorem zvals_at (zs : List Int) (i : Nat) (h : i < zs.length) : (zvals zs)[i]? = some (.int .i64 (zs.getD i 0)) := by simp [zvals, h, List.getD]
theorem zvals_append (a b : List Int) : zvals (a ++ b) = zvals a ++ zvals b := by simp [zvals]
theorem zvals_one (zs : List Int) : ∀ u ∈ zvals zs, u.oneCell' = true := by
  intro u hu; obtain ⟨c, _, rfl⟩ := List.mem_map.1 hu; rfl
theorem zvals_set (zs : List Int) (i : Nat) (x : Int) : (zvals zs).set i (.int .i64 x) = zvals (zs.set i x) := by simp [zvals, List.map_set]
theorem zvals_take (zs : List Int) (k : Nat) : (zvals zs).take k = zvals (zs.take k) := by simp [zvals, List.map_take]
theorem zvals_inj {a b : List Int} (h : zvals a = zvals b) : a = b := by
  have := congrArg (List.map (fun v : Value => match v with | .int _ z => z | _ => 0)) h
  simpa [zvals, Function.comp_def] using this
theorem take_snoc_int (zs : List Int) (k : Nat) (h : k < zs.length) : zs.take (k + 1) = zs.take k ++ [zs.getD k 0] := by
  rw [List.take_succ_eq_append_getElem h]; simp [List.getD, h]

section
variable {S : Nat → Prop} {w w' : World} {lo : Nat} {E : TypeId} {v : Value} {xs : List Value} {n : Nat}
theorem own_below (h : w.ownsRow lo E 1 v n xs) (hb : Below w.heap.size w w') : w'.ownsRow lo E 1 v n xs :=
  own_kept h (Kept.of_below (S := fun _ => False) hb) (fun _ _ h => h)
theorem own_n (h : w.ownsRow lo E 1 v n xs) : xs.length = n := by have := h.1; omega
theorem own_cap {a : Option Addr} {m cap : Nat} (h : w.ownsRow lo E 1 (.slice a m cap) n xs) : m = n ∧ n ≤ cap ∧ cap ≤ maxLen := by
  rcases h.2 with ⟨h1, h2⟩ | ⟨g, c, cur, h1, _, _, h3, h4, _⟩
  · obtain ⟨_, rfl, rfl⟩ : a = none ∧ m = 0 ∧ cap = 0 := by simpa using h1
    exact ⟨by omega, by omega, Nat.zero_le _⟩
  · obtain ⟨_, rfl, rfl⟩ : a = some ⟨g, 0, none⟩ ∧ m = n ∧ cap = c := by simpa using h1
    exact ⟨rfl, h3, h4⟩
/-- A row with an element lies somewhere. -/
theorem own_at {a : Option Addr} {m cap : Nat} (h : w.ownsRow lo E 1 (.slice a m cap) n xs) (i : Nat) (hi : i < n) : ∃ g, a = some ⟨g, 0, none⟩ ∧ lo ≤ g ∧ g < w.heap.size ∧ w.cell? ⟨g, i, none⟩ = xs[i]? ∧ w.frozen? ⟨g, i, none⟩ = false := by
  obtain ⟨g, c, hv, h1, h2⟩ := h.form (by omega)
  obtain ⟨rfl, rfl, rfl⟩ : a = some ⟨g, 0, none⟩ ∧ m = n ∧ cap = c := by simpa using hv
  exact ⟨g, rfl, h1, h2, h.cellAt i (by omega), h.frozenAt i⟩
/-- A row reads in a world where its block is as it was. -/
theorem own_same (h : w.ownsRow lo E 1 v n xs) (hk : ∀ g, v.ownBlock = some g → w'.heap[g]? = w.heap[g]?) : w'.ownsRow lo E 1 v n xs := by
  obtain ⟨h1, h2⟩ := h
  refine ⟨h1, ?_⟩
  rcases h2 with h2 | ⟨g, cap, cur, rfl, hg, hh, r⟩
  · exact .inl h2
  · exact .inr ⟨g, cap, cur, rfl, hg, (hk g rfl).trans hh, r⟩
theorem own_nil (lo : Nat) (E : TypeId) (w : World) : w.ownsRow lo E 1 (.slice none 0 0) 0 [] := ⟨by simp, .inl ⟨rfl, rfl⟩⟩
/-- A row that is cut. -/
theorem own_to {g cap : Nat} (h : w.ownsRow lo E 1 (.slice (some ⟨g, 0, none⟩) n cap) n xs) (k : Nat) (hk : k ≤ n) : w.ownsRow lo E 1 (.slice (some ⟨g, 0, none⟩) k cap) k (xs.take k) := by
  have hl := own_n h
  refine ⟨by simp; omega, .inr ?_⟩
  rcases h.2 with ⟨h1, h2⟩ | ⟨g', c, cur, h1, hg, hh, h3, h4, h5, h6⟩
  · simp at h1
  · obtain ⟨rfl, rfl⟩ : g = g' ∧ cap = c := by simpa using h1
    exact ⟨g, cap, cur, rfl, hg, hh, by omega, h4, h5, by rw [← h6, List.take_take]; congr 1; omega⟩
end

section
variable {P : Program} {w : World} {ops : Array Oper} {rest : List Oper} {o : Oper} {a : Act} {Q : Exit → Act → World → Prop} {S E : TypeId} {z : Value}
/-- Onto an own row: what lies at an address, or nothing. -/
theorem wpl_appendV (T : ElT P S E z) (hgd : o.guard = none) (s x : Operand) (ho : o.op = .call { callee := .builtin .append, args := #[s, x], argTypes := #[S, S] })
    (base : Nat) (v : Value) (n : Nat) (xs : List Value) (hs : a.eval s = v) (hown : w.ownsRow base E 1 v n xs)
    (sp : Option Addr) (m c : Nat) (ds : List Value) (hx : a.eval x = .slice sp m c) (hl : ds.length = m) (hnil : sp = none → c = 0 ∧ m = 0) (hsrc : ∀ ad, sp = some ad → ∀ j u, ds[j]? = some u → w.cell? (ad.add j) = some u) (h1 : ∀ u ∈ ds, u.oneCell' = true)
    (h63 : n + m ≤ 1000000000000) (hbase : base ≤ w.heap.size)
    (h : ∀ v' w', w'.ownsRow base E 1 v' (n + m) (xs ++ ds) → w.grownBy w' v.ownBlock → (v'.ownBlock = v.ownBlock ∨ v'.ownBlock = some w.heap.size) → wpList P ops Q rest (a.put o.dst v') w') : wpList P ops Q (o :: rest) a w := by
  obtain ⟨i0, b0, hi, hz0, hz1, hz2, hz3⟩ := T.info
  cases sp with
  | none =>
    obtain ⟨rfl, rfl⟩ := hnil rfl
    obtain rfl : ds = [] := List.length_eq_zero_iff.1 hl
    refine wpList_append_own_none hgd s x S ho base E i0 1 T.und hi v n xs hs hown hx (h _ _ ?_ ?_ (.inl rfl))
    · simpa using hown
    · exact ⟨rfl, rfl, rfl, Nat.le_refl _, fun _ _ _ => rfl⟩
  | some ad =>
    have hb : (n + m) * b0 ≤ (n + m) * 16 := Nat.mul_le_mul_left _ hz3
    refine wpList_append_own_at w hgd s x S ho base E i0 z 1 b0 T.und hi hz0 hz1 hz2 T.one (by decide) v n xs hs hown ad m c ds hx
      (by omega) (hsrc ad rfl) h1 (by unfold maxLen; omega) (by omega) hbase ?_
    intro v' w' h1 h2 _ h4
    exact h v' w' h1 h2 h4
end

section
variable {P : Program} {o : Oper} {a : Act} {w : World} {S E : TypeId} {z : Value}
/-- The place of an element. -/
theorem exec_index (T : ElT P S E z) (x ix : Operand) (ho : o.op = .indexAddr S x ix) (g n c i : Nat) (hx : a.eval x = .slice (some ⟨g, 0, none⟩) n c) (hix : a.eval ix = .int .i64 (i : Nat)) (hi : i < n) : (execOp a.eval o).run P w = .ok (.value (.pointer (some ⟨g, i, none⟩))) w := by
  obtain ⟨i0, b0, hi0, hz0, hz1, hz2, hz3⟩ := T.info
  have hb : (0 : Int) ≤ (i : Nat) ∧ ((i : Nat) : Int) < (n : Nat) := by omega
  have hadd : (⟨g, 0, none⟩ : Addr).add i = ⟨g, i, none⟩ := by have := Addr.add_mid g 0 i; rwa [Nat.zero_add] at this
  unfold execOp
  simp only [ho, hx, hix]
  simp [Instr.indexAt, asIntOf, run_underlying T.und, sizeOf, typeInfo, hi0, hb, hz1, hadd, hi]
/-- The beginning of a slice. -/
theorem run_sliceTo (T : ElT P S E z) (w : World) (a : Option Addr) (len cap n : Nat) (h : n ≤ cap) (hm : cap ≤ maxLen) : (Instr.sliceAt S (.slice a len cap) none (some (.int .i64 n)) none).run P w = .ok (.slice a n cap) w := by
  obtain ⟨i0, b0, hi, hz0, hz1, hz2, hz3⟩ := T.info
  unfold Instr.sliceAt
  rw [Sem.run_bind, run_underlying T.und]
  show (Instr.slice S (.slice a len cap) none (some (.int .i64 n)) none).run P w = _
  have hb : (0 : Int) ≤ n ∧ (n : Int) ≤ cap := by omega
  simp [Instr.slice, Instr.sliceBounds, Instr.sliceBound, run_underlying T.und, asIntOf, sizeOf, typeInfo, hi, hb]
  cases a <;> simp [Addr.add] <;> (intro hh; omega)
def zerosV (n : Nat) (z : Value) : Array Value := (List.replicate n z).toArray
/-- A new slice of n zero values. -/
theorem run_makeV (T : ElT P S E z) (hzc : z.cells = #[z]) (w : World) (n : Nat) (h : n ≤ 1000000000000) : (Instr.makeSlice S (.int .i64 n) (.int .i64 n)).run P w = .ok (.slice (some ⟨w.heap.size, 0, none⟩) n n) (w.alloc (Obj.cells (zerosV n z) E)) := by
  obtain ⟨i0, b0, hi, hz0, hz1, hz2, hz3⟩ := T.info
  have hb : (i0.bytes : Int) * n ≤ 281474976710656 := by
    have h1 : i0.bytes * n ≤ 16 * n := Nat.mul_le_mul_right _ (by omega)
    have h2 : ((i0.bytes * n : Nat) : Int) ≤ ((16 * n : Nat) : Int) := by exact_mod_cast h1
    have h3 : ((i0.bytes * n : Nat) : Int) = (i0.bytes : Int) * n := by simp
    omega
  have hr := run_make (P := P) w S E i0 z T.und hi hz0 .i64 .i64 n n (by omega) (Int.le_refl _) hb (by omega)
  rw [hr, hz1, Int.toNat_natCast, Nat.mul_one, hzc]
  have e : madeCells #[z] n = (List.replicate n z).toArray := by
    apply Array.ext'
    rw [toList_madeCells_one]
  rw [e]
  rfl
end
/-- What a row's cells give. -/
theorem own_src {w : World} {lo : Nat} {E : TypeId} {a : Option Addr} {m cap n : Nat} {xs : List Value} (h : w.ownsRow lo E 1 (.slice a m cap) n xs) : (a = none → cap = 0 ∧ m = 0) ∧ ∀ ad, a = some ad → ∀ j u, xs[j]? = some u → w.cell? (ad.add j) = some u := by
  refine ⟨fun e => ?_, fun ad e j u hu => ?_⟩
  · subst e
    rcases h.2 with ⟨h1, h2⟩ | ⟨g, c, cur, h1, _⟩
    · obtain ⟨rfl, rfl⟩ : m = 0 ∧ cap = 0 := by simpa using h1
      exact ⟨rfl, rfl⟩
    · simp at h1
  · subst e
    have hj : j < n := by
      have hl := own_n h
      by_cases hj : j < xs.length
      · omega
      · rw [List.getElem?_eq_none (by omega)] at hu; cases hu
    obtain ⟨g, hg, _, _, hc, _⟩ := own_at h j hj
    obtain rfl : ad = ⟨g, 0, none⟩ := by simpa using hg
    have hadd : (⟨g, 0, none⟩ : Addr).add j = ⟨g, j, none⟩ := by have := Addr.add_mid g 0 j; rwa [Nat.zero_add] at this
    rw [hadd, hc, hu]

/-- copy into a row of the call's own that is as long as it is. -/
theorem wpl_copyV {P : Program} {w : World} {ops : Array Oper} {rest : List Oper} {o : Oper} {a : Act} {Q : Exit → Act → World → Prop} {S E : TypeId} {z : Value} (T : ElT P S E z) (hgd : o.guard = none) (d s : Operand)
    (ho : o.op = .call { callee := .builtin .copy, args := #[d, s], argTypes := #[S, S] }) (g n : Nat) (cur : List Value) (hn : cur.length = n) (hd : a.eval d = .slice (some ⟨g, 0, none⟩) n n) (hg : Blk w g E cur.toArray)
    (lo : Nat) (v : Value) (m : Nat) (xs : List Value) (hs : a.eval s = v) (hown : w.ownsRow lo E 1 v m xs) (hnm : n ≤ m) (h1 : ∀ u ∈ xs, u.oneCell' = true)
    (h : ∀ w', Blk w' g E (xs.take n).toArray → Below g w w' → wpList P ops Q rest (a.put o.dst (goInt (n : Nat))) w') : wpList P ops Q (o :: rest) a w := by
  obtain ⟨i0, b0, hi, hz0, hz1, hz2, hz3⟩ := T.info
  obtain ⟨ad, cap, rfl⟩ := own_slice hown
  have hl := own_n hown
  have hlen : (xs.take n).length = n := by simp; omega
  refine wpList_copy_splice hgd d s _ _ ho E T.und (by rw [hi]; simp [hz1]) _ _ _ _ _ _ hd hs g 0 cur E hg (xs.take n) (by rw [hlen]; simp [Nat.min_eq_right hnm]) ?_ (by rw [hlen]; omega) (fun u hu => h1 u (List.mem_of_mem_take hu)) g w (Below.refl _ _) (Nat.le_refl _) ?_
  · intro h0
    rw [hlen] at h0
    refine ⟨rfl, ?_⟩
    obtain ⟨g', rfl, _⟩ := own_at hown 0 (by omega)
    refine ⟨_, rfl, fun j u hu => ?_⟩
    have hj : j < n := by
      by_cases hj : j < (xs.take n).length
      · omega
      · rw [List.getElem?_eq_none (by omega)] at hu; cases hu
    rw [List.getElem?_take_of_lt hj] at hu
    exact (own_src hown).2 _ rfl j u hu
  · intro w' hg' hb'
    rw [hlen]
    refine h w' ?_ hb'
    have hg2 := hg'.out
    unfold Blk
    rw [hg2]
    have e : splice cur 0 (xs.take n) = xs.take n := by
      unfold splice
      rw [hlen]
      simp [hn]
    rw [e]

/-- A zone as it reads. -/
structure ZoR where
  size : Int
  safe : Int
  fin : Bool
  failed : Int
  xs : List Value

/-- A zone's cells; v: its sectors. -/
def zoA (z : ZoR) (v : Value) : Array Value := #[.int .i64 z.size, v, .int .i64 z.safe, .bool z.fin, .int .i64 z.failed]
theorem zoA_size (z : ZoR) (v : Value) : (zoA z v).size = 5 := rfl

/-- What may be. -/
structure ZOk (z : ZoR) : Prop where
  size : 1 ≤ z.size ∧ z.size ≤ 64
  len : (z.xs.length : Int) ≤ z.size
  safe : 0 ≤ z.safe ∧ z.safe ≤ (z.xs.length : Int)
  failed : z.failed = 0 ∨ z.failed = 3 ∨ z.failed = 4
  one : ∀ u ∈ z.xs, u.oneCell' = true

/-- A zone lies at block A, its sectors in v; all beyond lo. -/
structure ZAt (T E : TypeId) (lo : Nat) (w : World) (A : Nat) (v : Value) (z : ZoR) : Prop where
  blk : Blk w A T (zoA z v)
  own : w.ownsRow lo E 1 v z.xs.length z.xs
  le : lo ≤ A

/-- The blocks of a zone. -/
def ZF (A : Nat) (v : Value) (k : Nat) : Prop := k = A ∨ v.ownBlock = some k

section
variable {S : Nat → Prop} {T E : TypeId} {lo A : Nat} {w w' : World} {v : Value} {z z' : ZoR}
theorem ZAt.kept (h : ZAt T E lo w A v z) (k : Kept S w w') (hn : ∀ i, ZF A v i → ¬ S i) : ZAt T E lo w' A v z :=
  ⟨h.blk.kept k (hn A (.inl rfl)), own_kept h.own k (fun g hg => hn g (.inr hg)), h.le⟩
theorem ZAt.below (h : ZAt T E lo w A v z) (hb : Below w.heap.size w w') : ZAt T E lo w' A v z := h.kept (Kept.of_below (S := fun _ => False) hb) (fun _ _ h => h)
theorem ZAt.lt (h : ZAt T E lo w A v z) {k : Nat} (hk : ZF A v k) : k < w.heap.size := by
  rcases hk with rfl | hk
  · exact h.blk.lt
  · exact own_lt h.own hk
theorem ZAt.slice (h : ZAt T E lo w A v z) : ∃ a cap, v = .slice a z.xs.length cap ∧ z.xs.length ≤ cap ∧ cap ≤ maxLen := by
  obtain ⟨a, cap, rfl⟩ := own_slice h.own
  exact ⟨a, cap, rfl, (own_cap h.own).2⟩
theorem ZAt.lov (h : ZAt T E lo w A v z) {k : Nat} (hk : ZF A v k) : lo ≤ k := by
  rcases hk with rfl | hk
  · exact h.le
  · rcases h.own.2 with ⟨rfl, _⟩ | ⟨g, c, cur, rfl, hg, _⟩
    · simp [Value.ownBlock] at hk
    · obtain rfl : g = k := by simpa [Value.ownBlock] using hk
      exact hg

/-- What a step of the zone leaves. -/
def ZTo (T E : TypeId) (lo : Nat) (w : World) (A : Nat) (v : Value) (z' : ZoR) (w' : World) : Prop :=
  ∃ v', ZAt T E lo w' A v' z' ∧ Kept (ZF A v) w w' ∧ ∀ g, v'.ownBlock = some g → v.ownBlock = some g ∨ w.heap.size ≤ g
theorem ZTo.same (h : ZAt T E lo w A v z) (hb : Below w.heap.size w w') : ZTo T E lo w A v z w' := ⟨v, h.below hb, Kept.of_below hb, fun _ h => .inl h⟩
theorem ZTo.below {w1 : World} (h : ZTo T E lo w A v z w1) (hb : Below w1.heap.size w1 w') : ZTo T E lo w A v z w' := by
  obtain ⟨v', h1, h2, h3⟩ := h
  exact ⟨v', h1.below hb, h2.andThen (Kept.of_below (S := fun _ => False) hb) (fun _ _ h => h) (fun _ _ h => h.elim), h3⟩
theorem ZTo.after {w1 : World} (hb : Below w.heap.size w w1) (h : ZTo T E lo w1 A v z w') : ZTo T E lo w A v z w' := by
  obtain ⟨v', h1, h2, h3⟩ := h
  refine ⟨v', h1, (Kept.of_below (S := fun _ => False) hb).andThen h2 (fun _ _ h => h.elim) (fun _ _ h => h), fun g hg => ?_⟩
  rcases h3 g hg with h | h
  · exact .inl h
  · exact .inr (Nat.le_trans hb.size h)
theorem ZTo.then_ {w1 w2 : World} {z1 z2 : ZoR} (h : ZTo T E lo w A v z1 w1) (k : ∀ v1, ZAt T E lo w1 A v1 z1 → ZTo T E lo w1 A v1 z2 w2) : ZTo T E lo w A v z2 w2 := by
  obtain ⟨v1, h1, h2, h3⟩ := h
  obtain ⟨v2, k1, k2, k3⟩ := k v1 h1
  refine ⟨v2, k1, h2.andThen k2 (fun _ _ h => h) (fun i hi hz => ?_), fun g hg => ?_⟩
  · rcases hz with rfl | hz
    · exact .inl rfl
    · rcases h3 i hz with h | h
      · exact .inr h
      · omega
  · rcases k3 g hg with h | h
    · exact h3 g h
    · exact .inr (Nat.le_trans h2.size h)
theorem ZTo.step {w1 w2 : World} {v1 : Value} {z2 : ZoR} (h2 : Kept (ZF A v) w w1) (h3 : ∀ g, v1.ownBlock = some g → v.ownBlock = some g ∨ w.heap.size ≤ g) (k : ZTo T E lo w1 A v1 z2 w2) : ZTo T E lo w A v z2 w2 := by
  obtain ⟨v2, k1, k2, k3⟩ := k
  refine ⟨v2, k1, h2.andThen k2 (fun _ _ h => h) (fun i hi hz => ?_), fun g hg => ?_⟩
  · rcases hz with rfl | hz
    · exact .inl rfl
    · rcases h3 i hz with h | h
      · exact .inr h
      · omega
  · rcases k3 g hg with h | h
    · exact h3 g h
    · exact .inr (Nat.le_trans h2.size h)
/-- A block of another kind stays. -/
theorem ZTo.blk (h : ZTo T E lo w A v z' w') (hz : ZAt T E lo w A v z) {g : Nat} {t : TypeId} {cs : Array Value} (hb : Blk w g t cs) (h1 : t ≠ T) (h2 : t ≠ E) : Blk w' g t cs := by
  obtain ⟨v', _, k, _⟩ := h
  refine hb.kept k (fun hS => ?_)
  rcases hS with e | e
  · exact Blk.unlike hb hz.blk h1 e
  · exact own_unlike hz.own hb (fun e => h2 e.symm) e.symm
/-- Another row stays, and apart. -/
theorem ZTo.row (h : ZTo T E lo w A v z' w') (hz : ZAt T E lo w A v z) {u : Value} {n : Nat} {ys : List Value} {E' : TypeId} (hu : w.ownsRow lo E' 1 u n ys) (hT : E' ≠ T) (hs : ∀ g, u.ownBlock = some g → v.ownBlock ≠ some g) :
    ∃ v', ZAt T E lo w' A v' z' ∧ Kept (ZF A v) w w' ∧ w'.ownsRow lo E' 1 u n ys ∧ ∀ g, u.ownBlock = some g → v'.ownBlock ≠ some g := by
  obtain ⟨v', k1, k2, k3⟩ := h
  refine ⟨v', k1, k2, own_kept hu k2 (fun g hg hS => ?_), fun g hg e => ?_⟩
  · rcases hS with rfl | e
    · exact own_unlike hu hz.blk hT hg.symm
    · exact hs g hg e
  · rcases k3 g e with h | h
    · exact hs g hg h
    · have := own_lt hu hg; omega
/-- A row that was made since is apart. -/
theorem own_apart {w1 : World} {u : Value} (hz : ZAt T E lo w A v z) (hu : ∀ g, u.ownBlock = some g → w.heap.size ≤ g) : ∀ g, u.ownBlock = some g → v.ownBlock ≠ some g := fun g hg e => by
  have := hz.lt (.inr e); have := hu g hg; omega
end

/-- A cell and two slots as results. -/
theorem results_cell_slot2 {P : Program} {fn : Func} {p q q' : Tmp} {ty : TypeId} (h : fn.results = #[.cell p ty, .tmp q, .tmp q']) (tmps : Array Value) (w : World) (g : Nat) (t : TypeId) (cs : Array Value) (v v' : Value) (d : TypeDesc)
    (hp : tmps.getD p undef = .pointer (some ⟨g, 0, none⟩)) (hq : tmps.getD q undef = v) (hq' : tmps.getD q' undef = v') (hg : Blk w g t cs)
    (hu : P.underlying ty = some d) (hd : (match d with | .struct _ | .array _ _ => true | _ => false) = true) (hi : (P.info? ty).map (·.size) = some cs.size) :
    (results fn tmps).run P w = .ok (.tuple #[.agg cs, v, v']) w := by
  have hp' : tmps[p]?.getD undef = .pointer (some ⟨g, 0, none⟩) := by simpa using hp
  have hq1 : tmps[q]?.getD undef = v := by simpa using hq
  have hq2 : tmps[q']?.getD undef = v' := by simpa using hq'
  simp [results, h, hp', hq1, hq2, asAddr, run_loadVar_row w g t ty cs (0, 0) d hg hu hd hi]

/-- The document's zone as it reads; its cells; u: its sectors. -/
structure RfR where
  size : Int
  safe : Int
  state : Int
  fin : Bool
  zs : List Int
def rfA (r : RfR) (u : Value) : Array Value := #[u, .int .i64 r.size, .int .i64 r.safe, .int .i64 r.state, .bool r.fin]
def rf0 (size : Int) : RfR := ⟨size, 0, 0, false, []⟩
theorem rfA_one (r : RfR) (a : Option Addr) (n c : Nat) : (rfA r (.slice a n c)).all (·.oneCell') = true := by
  simp only [rfA, Array.all_eq_true_iff_forall_mem, List.mem_toArray]
  intro x hx
  rcases List.mem_cons.1 hx with rfl | hx
  · rfl
  rcases List.mem_cons.1 hx with rfl | hx
  · rfl
  rcases List.mem_cons.1 hx with rfl | hx
  · rfl
  rcases List.mem_cons.1 hx with rfl | hx
  · rfl
  rcases List.mem_cons.1 hx with rfl | hx
  · rfl
  cases hx
structure ROk (r : RfR) : Prop where
  safe : 0 ≤ r.safe ∧ r.safe ≤ (r.zs.length : Int)
  len : r.zs.length ≤ 64

/-- While a call of the document's goes on: its own copy at block X, what it tells at block X + 1. -/
structure RfS (T E : TypeId) (lo : Nat) (w0 : World) (r : RfR) (u : Value) (q : Array Value) (w : World) : Prop where
  x : Blk w w0.heap.size T (rfA r u)
  g : Blk w (w0.heap.size + 1) T q
  b : Below w0.heap.size w0 w
  own : w.ownsRow lo E 1 u r.zs.length (zvals r.zs)
def rfZ : Array Value := #[.slice none 0 0, .int .i64 0, .int .i64 0, .int .i64 0, .bool false]
section
variable {T E : TypeId} {lo : Nat} {w0 w w' : World} {r r' : RfR} {u u' : Value} {q : Array Value}
theorem RfS.start (h : w.ownsRow lo E 1 u r.zs.length (zvals r.zs)) : RfS T E lo w r u rfZ ((w.alloc (Obj.cells (rfA r u) T)).alloc (Obj.cells rfZ T)) := by
  have hb := bthen (below_alloc w (Obj.cells (rfA r u) T)) (below_alloc _ (Obj.cells rfZ T))
  have hg := Blk.new (w.alloc (Obj.cells (rfA r u) T)) T rfZ
  rw [show (w.alloc (Obj.cells (rfA r u) T)).heap.size = w.heap.size + 1 by simp] at hg
  exact ⟨(Blk.new w T (rfA r u)).alloc _, hg, hb, own_below h hb⟩
theorem RfS.below (h : RfS T E lo w0 r u q w) (hb : Below w.heap.size w w') : RfS T E lo w0 r u q w' := ⟨h.x.below hb h.x.lt, h.g.below hb h.g.lt, bthen h.b hb, own_below h.own hb⟩
theorem RfS.set (h : RfS T E lo w0 r u q w) (hT : E ≠ T) (i : Nat) (v : Value) (hr : (rfA r u).setIfInBounds i v = rfA r' u) (hz : r'.zs = r.zs) : RfS T E lo w0 r' u q (w.setCell ⟨w0.heap.size, i, none⟩ v) := by
  have hx := h.x.set i v
  rw [hr] at hx
  refine ⟨hx, h.g.far (by simp) _, h.b.setCell (p := ⟨w0.heap.size, i, none⟩) (Nat.le_refl _) _, ?_⟩
  rw [hz]
  exact own_same h.own (fun g hg => Below.heap_setCell _ _ _ _ (fun e => own_unlike h.own h.x hT (by rw [hg]; exact congrArg some e.symm)))
/-- Its sectors are others. -/
theorem RfS.setL (h : RfS T E lo w0 r u q w) (hT : E ≠ T) (v : Value) (hr : (rfA r u).setIfInBounds 0 v = rfA r' v) (hv : w.ownsRow lo E 1 v r'.zs.length (zvals r'.zs)) : RfS T E lo w0 r' v q (w.setCell ⟨w0.heap.size, 0, none⟩ v) := by
  have hx := h.x.set 0 v
  rw [hr] at hx
  exact ⟨hx, h.g.far (by simp) _, h.b.setCell (p := ⟨w0.heap.size, 0, none⟩) (Nat.le_refl _) _,
    own_same hv (fun g hg => Below.heap_setCell _ _ _ _ (fun e => own_unlike hv h.x hT (by rw [hg]; exact congrArg some e.symm)))⟩
theorem RfS.out {q' : Array Value} (h : RfS T E lo w0 r u q w) (hT : E ≠ T) (hg : Blk w' (w0.heap.size + 1) T q') (hk : Kept (· = w0.heap.size + 1) w w') : RfS T E lo w0 r u q' w' :=
  ⟨h.x.kept hk (by simp), hg, bkept h.b (Nat.le_refl _) hk (fun i hi e => by omega), own_kept h.own hk (fun g hg' e => own_unlike h.own h.g hT (by rw [hg']; exact congrArg some e.symm))⟩
theorem RfS.far (h : RfS T E lo w0 r u q w) {p : Addr} (h1 : w0.heap.size + 1 < p.block) (h2 : u.ownBlock ≠ some p.block) (v : Value) : RfS T E lo w0 r u q (w.setCell p v) :=
  ⟨h.x.far (by omega) _, h.g.far (by omega) _, h.b.setCell (by omega) _, own_same h.own (fun g hg => Below.heap_setCell _ _ _ _ (fun e => h2 (by rw [hg]; exact congrArg some e)))⟩
theorem RfS.grown {w2 : World} {row : Option Nat} (h : RfS T E lo w0 r u q w) (hg : w.grownBy w2 row) (hn : ∀ g, row = some g → w0.heap.size + 1 < g ∧ u.ownBlock ≠ some g) : RfS T E lo w0 r u q w2 :=
  ⟨h.x.grown hg (fun e => by have := (hn _ e.symm).1; omega), h.g.grown hg (fun e => by have := (hn _ e.symm).1; omega), h.b.grown hg h.b.size (fun k e => by have := (hn _ e).1; omega),
    own_same h.own (fun g hg' => hg.block g (own_lt h.own hg') (fun e => (hn g e.symm).2 hg'))⟩
end

/-- What a call of the document's tells: its zone, and what else; its sectors are old ones, or new. -/
def RTo (E : TypeId) (lo : Nat) (w : World) (u : Value) (r' : RfR) (f : Value → Value) (e : Ending) (w' : World) : Prop :=
  ∃ u', e = .returned (f (.agg (rfA r' u'))) ∧ w'.ownsRow lo E 1 u' r'.zs.length (zvals r'.zs) ∧ (∀ g, u'.ownBlock = some g → u.ownBlock = some g ∨ w.heap.size ≤ g) ∧ Below w.heap.size w w'

/-- The error of a zone that failed; the state; where a sector is put, and what is told of it. -/
def refI (z : ZoR) : Int := if z.failed = 4 then 32 else if z.failed = 3 then 30 else 0
def stI (z : ZoR) : Int := if z.failed ≠ 0 then z.failed else if z.fin = true ∨ (z.xs.length : Int) = z.size then 2 else if (z.xs.length : Int) = 0 then 0 else 1
def zholB (z : ZoR) (off : Int) : Bool := decide (0 ≤ off) && decide (off < (z.xs.length : Int))

end Go.Proofs.Ytcdfolphbabaoaa
