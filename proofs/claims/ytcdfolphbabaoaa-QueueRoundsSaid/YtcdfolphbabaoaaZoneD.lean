/-
  Contracts of layer 6 (zone): All, sector by sector.
-/
import Derived.Test.YtcdfolphbabaoaaBaseR
import Derived.Test.YtcdfolphbabaoaaZoneC
import Derived.Maps.AppendAt
namespace Go.Proofs.Ytcdfolphbabaoaa
open Go.RowKit Go.Shelf
set_option linter.unusedVariables false
set_option linter.unnecessarySimpa false
set_option linter.unusedSimpArgs false
attribute [local go_sem] Oper.semAt_some

section
variable {P : Program} {w : World} {o : Oper} {a : Act} {K : Act → World → Prop} {Q : Exit → Act → World → Prop} {S E : TypeId} {z : Value}
/-- append, as one operation. -/
theorem wpo_appendV (T : ElT P S E z) (s x : Operand) (ho : o.op = .call { callee := .builtin .append, args := #[s, x], argTypes := #[S, S] })
    (base : Nat) (v : Value) (n : Nat) (xs : List Value) (hs : a.eval s = v) (hown : w.ownsRow base E 1 v n xs)
    (sp : Option Addr) (m c : Nat) (ds : List Value) (hx : a.eval x = .slice sp m c) (hl : ds.length = m) (hnil : sp = none → c = 0 ∧ m = 0) (hsrc : ∀ ad, sp = some ad → ∀ j u, ds[j]? = some u → w.cell? (ad.add j) = some u) (h1 : ∀ u ∈ ds, u.oneCell' = true)
    (h63 : n + m ≤ 1000000000000) (hbase : base ≤ w.heap.size)
    (h : ∀ v' w', w'.ownsRow base E 1 v' (n + m) (xs ++ ds) → w.grownBy w' v.ownBlock → (v'.ownBlock = v.ownBlock ∨ v'.ownBlock = some w.heap.size) → K (a.put o.dst v') w') : Oper.wp P o a w K Q := by
  obtain ⟨i0, b0, hi, hz0, hz1, hz2, hz3⟩ := T.info
  cases sp with
  | none =>
    obtain ⟨rfl, rfl⟩ := hnil rfl
    obtain rfl : ds = [] := List.length_eq_zero_iff.1 hl
    have hr := run_append_owned_none (P := P) w base S o.type E i0 1 T.und hi v n xs hown
    unfold Oper.wp execOp
    simp only [ho, resolve, invoke, builtin, Sem.run_bind, Sem.run_pure, Result.andThen_ok, List.map_toArray, List.map_cons, List.map_nil, hs, hx, hr]
    exact h v w (by simpa using hown) ⟨rfl, rfl, rfl, Nat.le_refl _, fun _ _ _ => rfl⟩ (.inl rfl)
  | some ad =>
    have hb : (n + m) * b0 ≤ (n + m) * 16 := Nat.mul_le_mul_left _ hz3
    obtain ⟨v', w', hr, h2, h3, _, h5⟩ := run_append_own_at (P := P) w base S o.type E i0 z 1 b0 T.und hi hz0 hz1 hz2 T.one (by decide) v n xs hown ad m c ds (by omega) (hsrc ad rfl) h1 (by unfold maxLen; omega) (by omega) hbase
    unfold Oper.wp execOp
    simp only [ho, resolve, invoke, builtin, Sem.run_bind, Sem.run_pure, Result.andThen_ok, List.map_toArray, List.map_cons, List.map_nil, hs, hx, hr]
    exact h v' w' h2 h3 h5
end
theorem exec_sliceTo {P : Program} {o : Oper} {a : Act} {w : World} {S E : TypeId} {z : Value} (T : ElT P S E z) (x hi : Operand) (ho : o.op = .slice S x none (some hi) none) (ad : Option Addr) (len cap n : Nat) (hx : a.eval x = .slice ad len cap) (hh : a.eval hi = .int .i64 (n : Nat)) (h : n ≤ cap) (hm : cap ≤ maxLen) :
    (execOp a.eval o).run P w = .ok (.value (.slice ad n cap)) w := by
  unfold execOp
  simp only [ho, hx, hh, Option.map_some, Option.map_none, Sem.run_bind, run_sliceTo T w ad len cap n h hm, Result.andThen_ok, Sem.run_pure]
/-- A row of the call's own, cut. -/
theorem own_cut {w : World} {lo : Nat} {E : TypeId} {a : Option Addr} {n cap : Nat} {xs : List Value} (h : w.ownsRow lo E 1 (.slice a n cap) n xs) (k : Nat) (hk : k ≤ n) : w.ownsRow lo E 1 (.slice a k cap) k (xs.take k) := by
  rcases h.2 with ⟨h1, h2⟩ | ⟨g, c, cur, h1, _⟩
  · obtain ⟨rfl, _, rfl⟩ : a = none ∧ n = 0 ∧ cap = 0 := by simpa using h1
    obtain rfl : k = 0 := by omega
    rw [List.take_zero]
    exact own_nil _ _ _
  · obtain ⟨rfl, rfl⟩ : a = some ⟨g, 0, none⟩ ∧ cap = c := by simpa using h1
    exact own_to h k hk
theorem keepsOthers_zf {T E : TypeId} {lo A : Nat} {w w' : World} {v : Value} {z : ZoR} (hz : ZAt T E lo w A v z) (k : Kept (ZF A v) w w') : KeepsOthers w w' := keepsOthers_kept k (fun i o hi ho => by
  rcases hi with rfl | hi
  · have h := hz.blk; unfold Blk at h; rw [h] at ho; cases ho; rfl
  · rcases hz.own.2 with ⟨rfl, _⟩ | ⟨g, c, cur, rfl, _, hh, _⟩
    · simp [Value.ownBlock] at hi
    · obtain rfl : g = i := by simpa [Value.ownBlock] using hi
      rw [hh] at ho; cases ho; rfl)
theorem wp_only {P : Program} {c : Code} {Q : Exit → Act → World → Prop} {a : Act} {w : World} (h : c.wp P (Exit.then (fun a w => Q .normal a w) (fun _ _ _ => False)) a w) : c.wp P Q a w :=
  wp_mono h (fun e a w h => by cases e <;> first | exact h | exact h.elim)
/-- A piece of code that is left by its end alone. -/
theorem wp_then_only {P : Program} {c : Code} {K : Act → World → Prop} {Q : Exit → Act → World → Prop} {a : Act} {w : World} (h : c.wp P (Exit.then K (fun _ _ _ => False)) a w) : c.wp P (Exit.then K Q) a w :=
  wp_mono h (fun e a w h => by cases e <;> first | exact h | exact h.elim)
/-- The block of a row is as it was. -/
def KpRow (v : Value) (W W' : World) : Prop := ∀ g, v.ownBlock = some g → W'.heap[g]? = W.heap[g]?
theorem KpRow.refl (v : Value) (W : World) : KpRow v W W := fun _ _ => rfl
theorem KpRow.trans {v : Value} {a b c : World} (h : KpRow v a b) (k : KpRow v b c) : KpRow v a c := fun g hg => (k g hg).trans (h g hg)
theorem KpRow.set {v : Value} {W : World} {p : Addr} (u : Value) (h : v.ownBlock ≠ some p.block) : KpRow v W (W.setCell p u) := fun g hg => Below.heap_setCell _ _ _ _ (fun e => h (by rw [hg]; exact congrArg some e))
theorem KpRow.put {v : Value} {w : World} (hv : ∀ g, v.ownBlock = some g → g < w.heap.size) (W : World) (l : Nat) (o o' : Obj) (hl : w.heap.size ≤ l) (h : W.heap[l]? = some o) (_ : o.isCells = false) (_ : o.isWalk = false) : KpRow v W (W.putObj l o') := fun g hg =>
  World.putObj_heap_other (by have := hv g hg; omega)

/-- Numbered, from nought on. -/
def numb (zs : List Int) (k : Nat) : List (Nat × Int) := (List.range k).map (fun j => (j, zs.getD j 0))
theorem numb_succ (zs : List Int) (k : Nat) : numb zs (k + 1) = numb zs k ++ [(k, zs.getD k 0)] := by simp [numb, List.range_succ]
theorem numb_length (zs : List Int) (k : Nat) : (numb zs k).length = k := by simp [numb]
theorem numb_prefix (zs : List Int) (k n : Nat) (h : k ≤ n) : numb zs k <+: numb zs n := by
  unfold numb
  refine List.IsPrefix.map _ ?_
  rw [List.prefix_iff_eq_take]
  simp [List.take_range, Nat.min_eq_left h]
theorem numb_get {zs : List Int} {n : Nat} {x : Nat × Int} {pre : List (Nat × Int)} (h : pre ++ [x] <+: numb zs n) : x = (pre.length, zs.getD pre.length 0) := by
  obtain ⟨t, ht⟩ := h
  have h1 : (numb zs n)[pre.length]? = some x := by rw [← ht]; simp
  unfold numb at h1
  rw [List.getElem?_map] at h1
  cases hr : (List.range n)[pre.length]? with
  | none => rw [hr] at h1; cases h1
  | some i =>
    rw [hr] at h1
    obtain ⟨hi, he⟩ := List.getElem?_eq_some_iff.1 hr
    simp at he h1
    rw [← h1, he]
    simp [List.getD]

def encP (x : Nat × Int) : Array Value := #[Value.int .i64 (x.1 : Int), Value.int .i64 x.2]

section
variable {lo A Bp : Nat} {v : Value} {z : ZoR} {zs : List Int}

end

end Go.Proofs.Ytcdfolphbabaoaa
