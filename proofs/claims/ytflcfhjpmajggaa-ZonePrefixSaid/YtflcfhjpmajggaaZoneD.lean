/-
  Contracts of layer 6 (zone): All, sector by sector.
-/
import Derived.Test.YtflcfhjpmajggaaBaseR
import Derived.Test.YtflcfhjpmajggaaZoneC
import Derived.Maps.AppendAt
namespace Go.Proofs.Ytflcfhjpmajggaa
open Go.RowKit Go.Shelf
set_option linter.unusedVariables false
set_option linter.unnecessarySimpa false
set_option linter.unusedSimpArgs false
attribute [local go_sem] Oper.semAt_some

section
variable {P : Program} {w : World} {o : Oper} {a : Act} {K : Act → World → Prop} {Q : Exit → Act → World → Prop} {S E : TypeId} {z : Value}
/-- append, as one operation. -/
theorem wpo_appendV (T : ElT P S E z) (s x : Operand) (ho : o.op = .call { callee := .builtin .append, args := #[s, x], argTypes := #[S, S] })
    (base : Nat) (v : Value) (n : Nat) (xs : List Value) (hs : a.eval s = v) (hown : w.ownsRow base E 1 v n xs)
    (sp : Option Addr) (m c : Nat) (ds : List Value) (hx : a.eval x = .slice sp m c) (hl : ds.length = m) (hnil : sp = none → c = 0 ∧ m = 0) (hsrc : ∀ ad, sp = some ad → ∀ j u, ds[j]? = some u → w.cell? (ad.add j) = some u) (h1 : ∀ u ∈ ds, u.oneCell' = true)
    (h63 : n + m ≤ 1000000000000) (hbase : base ≤ w.heap.size)
    (h : ∀ v' w', w'.ownsRow base E 1 v' (n + m) (xs ++ ds) → w.grownBy w' v.ownBlock → (v'.ownBlock = v.ownBlock ∨ v'.ownBlock = some w.heap.size) → K (a.put o.dst v') w') : Oper.wp P o a w K Q := by
  obtain ⟨i0, b0, hi, hz0, hz1, hz2, hz3⟩ := T.info
  cases sp with
  | none =>
    obtain ⟨rfl, rfl⟩ := hnil rfl
    obtain rfl : ds = [] := List.length_eq_zero_iff.1 hl
    have hr := run_append_owned_none (P := P) w base S o.type E i0 1 T.und hi v n xs hown
    unfold Oper.wp execOp
    simp only [ho, resolve, invoke, builtin, Sem.run_bind, Sem.run_pure, Result.andThen_ok, List.map_toArray, List.map_cons, List.map_nil, hs, hx, hr]
    exact h v w (by simpa using hown) ⟨rfl, rfl, rfl, Nat.le_refl _, fun _ _ _ => rfl⟩ (.inl rfl)
  | some ad =>
    have hb : (n + m) * b0 ≤ (n + m) * 16 := Nat.mul_le_mul_left _ hz3
    obtain ⟨v', w', hr, h2, h3, _, h5⟩ := run_append_own_at (P := P) w base S o.type E i0 z 1 b0 T.und hi hz0 hz1 hz2 T.one (by decide) v n xs hown ad m c ds (by omega) (hsrc ad rfl) h1 (by unfold maxLen; omega) (by omega) hbase
    unfold Oper.wp execOp
    simp only [ho, resolve, invoke, builtin, Sem.run_bind, Sem.run_pure, Result.andThen_ok, List.map_toArray, List.map_cons, List.map_nil, hs, hx, hr]
    exact h v' w' h2 h3 h5
end
theorem exec_sliceTo {P : Program} {o : Oper} {a : Act} {w : World} {S E : TypeId} {z : Value} (T : ElT P S E z) (x hi : Operand) (ho : o.op = .slice S x none (some hi) none) (ad : Option Addr) (len cap n : Nat) (hx : a.eval x = .slice ad len cap) (hh : a.eval hi = .int .i64 (n : Nat)) (h : n ≤ cap) (hm : cap ≤ maxLen) :
    (execOp a.eval o).run P w = .ok (.value (.slice ad n cap)) w := by
  unfold execOp
  simp only [ho, hx, hh, Option.map_some, Option.map_none, Sem.run_bind, run_sliceTo T w ad len cap n h hm, Result.andThen_ok, Sem.run_pure]
/-- A row of the call's own, cut. -/
theorem own_cut {w : World} {lo : Nat} {E : TypeId} {a : Option Addr} {n cap : Nat} {xs : List Value} (h : w.ownsRow lo E 1 (.slice a n cap) n xs) (k : Nat) (hk : k ≤ n) : w.ownsRow lo E 1 (.slice a k cap) k (xs.take k) := by
  rcases h.2 with ⟨h1, h2⟩ | ⟨g, c, cur, h1, _⟩
  · obtain ⟨rfl, _, rfl⟩ : a = none ∧ n = 0 ∧ cap = 0 := by simpa using h1
    obtain rfl : k = 0 := by omega
    rw [List.take_zero]
    exact own_nil _ _ _
  · obtain ⟨rfl, rfl⟩ : a = some ⟨g, 0, none⟩ ∧ cap = c := by simpa using h1
    exact own_to h k hk
theorem keepsOthers_zf {T E : TypeId} {lo A : Nat} {w w' : World} {v : Value} {z : ZoR} (hz : ZAt T E lo w A v z) (k : Kept (ZF A v) w w') : KeepsOthers w w' := keepsOthers_kept k (fun i o hi ho => by
  rcases hi with rfl | hi
  · have h := hz.blk; unfold Blk at h; rw [h] at ho; cases ho; rfl
  · rcases hz.own.2 with ⟨rfl, _⟩ | ⟨g, c, cur, rfl, _, hh, _⟩
    · simp [Value.ownBlock] at hi
    · obtain rfl : g = i := by simpa [Value.ownBlock] using hi
      rw [hh] at ho; cases ho; rfl)
theorem wp_only {P : Program} {c : Code} {Q : Exit → Act → World → Prop} {a : Act} {w : World} (h : c.wp P (Exit.then (fun a w => Q .normal a w) (fun _ _ _ => False)) a w) : c.wp P Q a w :=
  wp_mono h (fun e a w h => by cases e <;> first | exact h | exact h.elim)
/-- A piece of code that is left by its end alone. -/
theorem wp_then_only {P : Program} {c : Code} {K : Act → World → Prop} {Q : Exit → Act → World → Prop} {a : Act} {w : World} (h : c.wp P (Exit.then K (fun _ _ _ => False)) a w) : c.wp P (Exit.then K Q) a w :=
  wp_mono h (fun e a w h => by cases e <;> first | exact h | exact h.elim)
/-- The block of a row is as it was. -/
def KpRow (v : Value) (W W' : World) : Prop := ∀ g, v.ownBlock = some g → W'.heap[g]? = W.heap[g]?
theorem KpRow.refl (v : Value) (W : World) : KpRow v W W := fun _ _ => rfl
theorem KpRow.trans {v : Value} {a b c : World} (h : KpRow v a b) (k : KpRow v b c) : KpRow v a c := fun g hg => (k g hg).trans (h g hg)
theorem KpRow.set {v : Value} {W : World} {p : Addr} (u : Value) (h : v.ownBlock ≠ some p.block) : KpRow v W (W.setCell p u) := fun g hg => Below.heap_setCell _ _ _ _ (fun e => h (by rw [hg]; exact congrArg some e))
theorem KpRow.put {v : Value} {w : World} (hv : ∀ g, v.ownBlock = some g → g < w.heap.size) (W : World) (l : Nat) (o o' : Obj) (hl : w.heap.size ≤ l) (h : W.heap[l]? = some o) (_ : o.isCells = false) (_ : o.isWalk = false) : KpRow v W (W.putObj l o') := fun g hg =>
  World.putObj_heap_other (by have := hv g hg; omega)

/-- Numbered, from nought on. -/
def numb (zs : List Int) (k : Nat) : List (Nat × Int) := (List.range k).map (fun j => (j, zs.getD j 0))
theorem numb_succ (zs : List Int) (k : Nat) : numb zs (k + 1) = numb zs k ++ [(k, zs.getD k 0)] := by simp [numb, List.range_succ]
theorem numb_length (zs : List Int) (k : Nat) : (numb zs k).length = k := by simp [numb]
theorem numb_prefix (zs : List Int) (k n : Nat) (h : k ≤ n) : numb zs k <+: numb zs n := by
  unfold numb
  refine List.IsPrefix.map _ ?_
  rw [List.prefix_iff_eq_take]
  simp [List.take_range, Nat.min_eq_left h]
theorem numb_get {zs : List Int} {n : Nat} {x : Nat × Int} {pre : List (Nat × Int)} (h : pre ++ [x] <+: numb zs n) : x = (pre.length, zs.getD pre.length 0) := by
  obtain ⟨t, ht⟩ := h
  have h1 : (numb zs n)[pre.length]? = some x := by rw [← ht]; simp
  unfold numb at h1
  rw [List.getElem?_map] at h1
  cases hr : (List.range n)[pre.length]? with
  | none => rw [hr] at h1; cases h1
  | some i =>
    rw [hr] at h1
    obtain ⟨hi, he⟩ := List.getElem?_eq_some_iff.1 hr
    simp at he h1
    rw [← h1, he]
    simp [List.getD]

def encP (x : Nat × Int) : Array Value := #[Value.int .i64 (x.1 : Int), Value.int .i64 x.2]

theorem all_any {A : Nat} (w : World) :
    Calls Try.prog 11 #[.pointer (some ⟨A, 0, none⟩)] w fun e w' => e = .returned (.func (.func 38) #[] #[.pointer (some ⟨w.heap.size, 0, none⟩)]) ∧ w' = w.alloc (Obj.cells #[.pointer (some ⟨A, 0, none⟩)] 24) := by
  go_enter Try.func11, Try.ntmps11
  go_wp2_with fail
  go_ret
  exact ⟨rfl, rfl⟩

section
variable {lo A Bp : Nat} {v : Value} {z : ZoR} {zs : List Int}

set_option maxRecDepth 100000 in
set_option maxHeartbeats 1000000 in
theorem all1_none (n : Nat) (hn : 1 ≤ n) (l : Nat) (J Jx : List (Nat × Int) → World → Prop) (W : World) (hz : ZAt 56 3 lo W A v z) (h00 : z.xs.length = 0) (hB : W.cell? ⟨Bp, 0, none⟩ = some (.pointer (some ⟨A, 0, none⟩))) (h0 : J [] W) :
    CallsIn Fence.wide n Try.prog 38 #[.func (.yield l) #[] #[], .pointer (some ⟨Bp, 0, none⟩)] W fun e W' => (∃ v, e = .returned v) ∧ J [] W' := by
  obtain ⟨a, cap, rfl, hc1, hc2⟩ := hz.slice
  rw [h00] at *
  have c1 : W.cell? ⟨A, 1, none⟩ = some (.slice a 0 cap) := (hz.blk.cell 1).trans rfl
  clear hz h00
  refine callsIn_of_wp Try.func38 rfl trivial ?_ rfl
  simp only [Try.ntmps38, List.size_toArray, List.length_cons, List.length_nil, Nat.reduceAdd, Nat.reduceSub, Array.replicate_succ, Array.replicate_zero, List.push_toArray, List.append_toArray, List.nil_append, List.cons_append]
  gi_wp2
  gi_loopw [10] (fun i wr => i = .int .i64 0 ∧ J [] wr) (fun _ _ => 0)
  case atStart => exact ⟨rfl, h0⟩
  case round =>
    obtain ⟨rfl, hJs⟩ := hrel
    gi_wp2
    go_end0
    exact ⟨⟨_, rfl⟩, hJs⟩

set_option maxRecDepth 100000 in
set_option maxHeartbeats 1000000 in
theorem all1_some (n : Nat) (hn : 1 ≤ n) (l : Nat) (J Jx : List (Nat × Int) → World → Prop) (W : World) (hz : ZAt 56 3 lo W A v z) (hzs : z.xs = ivals zs) (h00 : 0 < z.xs.length) (hl : z.xs.length ≤ 64)
    (hY : ∀ pre x W1, J pre W1 → pre.length < zs.length → YieldAt Fence.wide (n - 1) Try.prog l (encP x) W1 fun e W' => (e = .returned (.bool true) ∧ J (pre ++ [x]) W' ∧ KpRow v W1 W') ∨ (e = .returned (.bool false) ∧ Jx (pre ++ [x]) W'))
    (hB : W.cell? ⟨Bp, 0, none⟩ = some (.pointer (some ⟨A, 0, none⟩))) (h0 : J [] W) :
    CallsIn Fence.wide n Try.prog 38 #[.func (.yield l) #[] #[], .pointer (some ⟨Bp, 0, none⟩)] W fun e W' => (∃ v, e = .returned v) ∧ ((∃ ys, ys = numb zs zs.length ∧ J ys W') ∨ (∃ pre, pre <+: numb zs zs.length ∧ Jx pre W')) := by
  obtain ⟨a, cap, rfl, hc1, hc2⟩ := hz.slice
  have hlz : z.xs.length = zs.length := by rw [hzs, ivals_length]
  have Hz := Lib.hid hz
  have Hzs := Lib.hid hzs
  obtain ⟨g, rfl, _⟩ := own_at hz.own 0 h00
  have c1 : W.cell? ⟨A, 1, none⟩ = some (.slice (some ⟨g, 0, none⟩) z.xs.length cap) := (hz.blk.cell 1).trans rfl
  unfold maxLen at hc2
  have HY := Lib.hid hY
  clear hz hzs hY
  rw [hlz] at c1 h00 hl hc1
  have Hlz := Lib.hid hlz
  clear hlz
  refine callsIn_of_wp Try.func38 rfl trivial ?_ rfl
  simp only [Try.ntmps38, List.size_toArray, List.length_cons, List.length_nil, Nat.reduceAdd, Nat.reduceSub, Array.replicate_succ, Array.replicate_zero, List.push_toArray, List.append_toArray, List.nil_append, List.cons_append]
  gi_wp2
  gi_loopw [10] (fun i wr => ∃ k : Nat, k ≤ zs.length ∧ i = .int .i64 k ∧ J (numb zs k) wr ∧ KpRow (.slice (some ⟨g, 0, none⟩) z.xs.length cap) W wr) (fun i _ => zs.length - (intOf i).toNat)
  case atStart => exact ⟨0, Nat.zero_le _, rfl, h0, KpRow.refl _ _⟩
  case round =>
    obtain ⟨k, hk, rfl, hJ, hK⟩ := hrel
    by_cases hlt : k < zs.length
    · have hi : k < z.xs.length := by rw [Hlz.out]; exact hlt
      obtain ⟨g', hg', _, _, hg3, _⟩ := own_at (own_same Hz.out.own hK) k hi
      obtain rfl : g' = g := by simpa using hg'.symm
      rw [Hzs.out, ivals_at zs k hlt] at hg3
      obtain ⟨fn, tmps, assign, body, hy, hR⟩ := HY.out _ (k, zs.getD k 0) wr hJ (by rw [numb_length]; exact hlt)
      unfold encP at hy
      dsimp only at hy
      have HK := Lib.hid hK
      clear hK hi hg'
      have He := Lib.hid (numb_succ zs k)
      generalize zs.getD k 0 = X at *
      gi_wp2
      refine hR.mono ?_
      rintro e W3 (⟨rfl, hJ3, hk3⟩ | ⟨rfl, hJx3⟩)
      · gi_wp2
        go_roundw
        case rel => exact ⟨k + 1, by omega, by go_num, by rw [He.out]; exact hJ3, HK.out.trans hk3⟩
        case measure => simp [intOf]; omega
      · gi_wp2
        refine bodyPost_ret (results_none rfl _ _ _) rfl ?_
        exact ⟨⟨_, rfl⟩, .inr ⟨_, by rw [← He.out]; exact numb_prefix _ _ _ (by omega), hJx3⟩⟩
    · obtain rfl : k = zs.length := by omega
      gi_wp2
      go_end0
      exact ⟨⟨_, rfl⟩, .inl ⟨_, rfl, hJ⟩⟩

theorem all_gives (n : Nat) (hn : 1 ≤ n) (w : World) (hz : ZAt 56 3 lo w A v z) (hzs : z.xs = ivals zs) (hl : z.xs.length ≤ 64) (hB : Blk w Bp 24 #[.pointer (some ⟨A, 0, none⟩)]) :
    SeqStopsK Fence.wide n Try.prog 38 #[.pointer (some ⟨Bp, 0, none⟩)] encP (KpRow v) (fun ys => ys = numb zs zs.length) (fun pre => pre <+: numb zs zs.length) zs.length w := by
  intro l J Jx W hW _ _ hY h0
  have hz' := hz.below hW
  have hB' := ((hB.below hW hB.lt).cell 0).trans (rfl : (#[Value.pointer (some ⟨A, 0, none⟩)] : Array Value)[0]? = some (.pointer (some ⟨A, 0, none⟩)))
  by_cases h00 : z.xs.length = 0
  · refine (all1_none n hn l J Jx W hz' h00 hB' h0).mono ?_
    rintro e W' ⟨he, hJ⟩
    refine ⟨he, .inl ⟨[], ?_, hJ⟩⟩
    have : zs.length = 0 := by rw [hzs, ivals_length] at h00; exact h00
    rw [this]; rfl
  · exact all1_some n hn l J Jx W hz' hzs (by omega) hl hY hB' h0
end

end Go.Proofs.Ytflcfhjpmajggaa
