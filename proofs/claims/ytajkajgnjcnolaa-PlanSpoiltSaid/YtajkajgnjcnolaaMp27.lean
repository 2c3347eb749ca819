import Derived.Test.YtajkajgnjcnolaaMp26
import Derived.Test.YtajkajgnjcnolaaMp04
import Derived.Test.YtajkajgnjcnolaaMp08
import Derived.OwnWalkIn
import Derived.Test.YtajkajgnjcnolaaMp14
import Derived.RangeFuncNested
import Derived.OrdersIn
import Derived.Test.YtajkajgnjcnolaaMp17
import Derived.RangeFuncFrom
import Derived.Sort.CutIn
namespace Go.Proofs.Ytajkajgnjcnolaa
open Go.RowKit
set_option linter.unusedVariables false
set_option linter.unnecessarySimpa false
set_option linter.unusedSimpArgs false
structure LvJ (C : Drv) (w : World) (X Y : Nat) (S : St8) (F : Nat → Prop) (vz vc vh : Value) (W : World) : Prop where
  at_ : C.At w.heap.size W X S F
  dc : Dc w.heap.size W vz vc vh S.R
  bY : Blk W Y 30 (d8A (dd7 S.R.d) vz vc vh)
  B : Below w.heap.size w W
  loY : w.heap.size ≤ Y
section
variable {C : Drv} {w W W' : World} {X Y : Nat} {S S' : St8} {F : Nat → Prop} {vz vc vh vz' vc' vh' : Value}
theorem LvJ.below (h : LvJ C w X Y S F vz vc vh W) (hb : Below W.heap.size W W') : LvJ C w X Y S F vz vc vh W' := ⟨C.below h.at_ hb, h.dc.below hb, h.bY.below hb h.bY.lt, h.B.trans (hb.mono h.B.size), h.loY⟩
theorem LvJ.keptB {U : TypeId} {cs : Array Value} {g : Nat} (h : LvJ C w X Y S F vz vc vh W) (hg : Blk W g U cs) (hl : w.heap.size ≤ g) (hF : ¬ F g) (h0 : U ≠ 30) (h1 : U ≠ 83) (h2 : U ≠ 87) (h3 : U ≠ 33) (hk : Kept (· = g) W W') : LvJ C w X Y S F vz vc vh W' :=
  ⟨C.kept h.at_ hk (fun i hi e => hF (e ▸ hi)), h.dc.keptB hg h1 h2 h3 hk, h.bY.kept hk (fun e => Blk.unlike hg h.bY h0 e.symm), bkept h.B (Nat.le_refl _) hk (fun i hi e => by omega), h.loY⟩
theorem LvJ.next {W2 : World} (h : LvJ C w X Y S F vz vc vh W) (hd : Dc w.heap.size W2 vz' vc' vh' S'.R) (hT : DrTo C w.heap.size W X F S' W2) (hb : Blk W' Y 30 (d8A (dd7 S'.R.d) vz' vc' vh')) (hk : Kept (· = Y) W2 W') :
    ∃ F', LvJ C w X Y S' F' vz' vc' vh' W' ∧ (∀ g t cs, Blk W g t cs → ¬ F g → g ≠ Y → Blk W' g t cs ∧ ¬ F' g) := by
  have hB2 := hT.bel h.at_ h.B (Nat.le_refl _) (Nat.le_refl _)
  obtain ⟨F', k1, k2, k3⟩ := hT
  have hY2 : Blk W2 Y 30 (d8A (dd7 S.R.d) vz vc vh) := h.bY.kept k2 (C.not h.at_ h.bY (by decide))
  refine ⟨F', ⟨C.kept k1 hk (fun i hi e => C.not k1 hY2 (by decide) (e ▸ hi)), hd.keptB hY2 (by decide) (by decide) (by decide) hk, hb, bkept hB2 (Nat.le_refl _) hk (fun i hi e => by have := h.loY; omega), h.loY⟩, fun g t cs hg hF hgY => ⟨(hg.kept k2 hF).kept hk hgY, fun hF' => ?_⟩⟩
  rcases k3 g hF' with h1 | h1
  · exact hF h1
  · have := hg.lt; omega
end
end Go.Proofs.Ytajkajgnjcnolaa

namespace Go.Proofs.Ytajkajgnjcnolaa
open Go.RowKit
set_option linter.unusedVariables false
set_option linter.unnecessarySimpa false
set_option linter.unusedSimpArgs false
def nrm (s : List Nat) : List Nat := if s.length = 64 then s else zeros 64
theorem nrm_of {s : List Nat} (h : s.length = 64) : nrm s = s := if_pos h
theorem nrm_length (s : List Nat) : (nrm s).length = 64 := by
  unfold nrm
  split
  · assumption
  · exact zeros_length 64
section
variable {F : Fence} {n : Nat} {P : Program} {w w' : World} {ops : Array Oper} {rest : List Oper} {o : Oper} {a : Act} {Q : Exit → Act → World → Prop}
theorem wplIn_value (hg : o.guard = none) (v : Value) (hab : o.about P w a.eval = none) (hnd : ∀ c, o.op ≠ .defer c) (hrun : (execOp a.eval o).run P w = .ok (.value v) w') (h : wpListIn F n P ops Q rest (a.put o.dst v) w') : wpListIn F n P ops Q (o :: rest) a w :=
  wpListIn_plain hg fun K hK => by
    unfold Oper.wpIn
    refine ⟨fun f hf => (by rw [hab] at hf; cases hf), ?_⟩
    rw [Oper.semAt_plain F _ _ hnd, hrun]
    exact hK _ _ h
theorem wplIn_skip (hg : o.guard = none) (hab : o.about P w a.eval = none) (hnd : ∀ c, o.op ≠ .defer c) (hrun : (execOp a.eval o).run P w = .ok .skip w') (h : wpListIn F n P ops Q rest (a.put o.dst undef) w') : wpListIn F n P ops Q (o :: rest) a w :=
  wpListIn_plain hg fun K hK => by
    unfold Oper.wpIn
    refine ⟨fun f hf => (by rw [hab] at hf; cases hf), ?_⟩
    rw [Oper.semAt_plain F _ _ hnd, hrun]
    exact hK _ _ h
theorem wplIn_load_b (hg : o.guard = none) (ty : TypeId) (x : Operand) (ho : o.op = .load ty x) (b i : Nat) (hx : a.eval x = .pointer (some ⟨b, i, none⟩)) (s : List Nat) (d : TypeDesc) (hc : w.rangeAt b i (bvals s))
    (hu : P.underlying ty = some d) (hd : d.isRow = true) (hi : (P.info? ty).map (·.size) = some (bvals s).length) (h : wpListIn F n P ops Q rest (a.put o.dst (.agg (bA s))) w) : wpListIn F n P ops Q (o :: rest) a w :=
  wplIn_value hg _ (by simp [Oper.about, ho]) (by rw [ho]; intro c h; cases h) (exec_load_b ty x ho b i hx s d hc hu hd hi) h
theorem wplIn_load (hg : o.guard = none) {ty : TypeId} (x : Operand) (ho : o.op = .load ty x) (g : Nat) (hx : a.eval x = .pointer (some ⟨g, 0, none⟩)) (t : TypeId) (cs : Array Value) (d : TypeDesc) (hb : Blk w g t cs)
    (hu : P.underlying ty = some d) (hd : (match d with | .struct _ | .array _ _ => true | _ => false) = true) (hi : (P.info? ty).map (·.size) = some cs.size)
    (h : wpListIn F n P ops Q rest (a.put o.dst (.agg cs)) w) : wpListIn F n P ops Q (o :: rest) a w :=
  wplIn_value hg _ (by simp [Oper.about, ho]) (by rw [ho]; intro c h; cases h) (exec_load x ho g hx hb hu hd hi) h
theorem wplIn_store_new (hg : o.guard = none) {ty : TypeId} (x y : Operand) (ho : o.op = .store ty x y) (cs : Array Value) (w0 : World) (t : TypeId) (old : Array Value) (hw : w = w0.alloc (.cells old t)) (hx : a.eval x = .pointer (some ⟨w0.heap.size, 0, none⟩)) (hy : a.eval y = .agg cs)
    (hi : (P.info? ty).map (·.size) = some cs.size) (hold : old.size = cs.size) (h1 : cs.all (·.oneCell') = true)
    (h : wpListIn F n P ops Q rest (a.put o.dst undef) (w0.alloc (.cells cs t))) : wpListIn F n P ops Q (o :: rest) a w := by
  subst hw
  refine wplIn_skip hg (by simp [Oper.about, ho]) (by rw [ho]; intro c h; cases h) ?_ h
  unfold execOp
  simp only [ho, hx, hy, Instr.storeAt, Instr.sureAddr, Sem.run_bind, Sem.run_pure, Result.andThen_ok, run_storeVar_row _ w0.heap.size t ty old cs (heap_alloc_new w0 _) hi hold h1]
  rw [setRow_new]
end
theorem zallF {A : Nat} (w : World) :
    Calls Try.prog 45 #[.pointer (some ⟨A, 0, none⟩)] w fun e w' => e = .returned (.func (.func 68) #[] #[.pointer (some ⟨w.heap.size, 0, none⟩)]) ∧ w' = w.alloc (Obj.cells #[.pointer (some ⟨A, 0, none⟩)] 93) := by
  go_enter Try.func45, Try.ntmps45
  go_wp2_with fail
  go_ret
  exact ⟨rfl, rfl⟩
section
variable {lo A Bp : Nat} {v : Value} {z : ZsR}
set_option maxRecDepth 100000 in
set_option maxHeartbeats 1000000 in
theorem allF_none (n : Nat) (hn : 1 ≤ n) (l : Nat) (J Jx : List (Nat × List Nat) → World → Prop) (W : World) (hz : ZsAt 114 34 lo W A v z) (h00 : z.ss.length = 0) (hB : W.cell? ⟨Bp, 0, none⟩ = some (.pointer (some ⟨A, 0, none⟩))) (h0 : J [] W) :
    CallsIn Fence.wide n Try.prog 68 #[.func (.yield l) #[] #[], .pointer (some ⟨Bp, 0, none⟩)] W fun e W' => (∃ v, e = .returned v) ∧ J [] W' := by
  obtain ⟨a, cap, rfl, hc1, hc2⟩ := hz.slice
  rw [h00] at *
  have c1 : W.cell? ⟨A, 1, none⟩ = some (.slice a 0 cap) := (hz.blk.cell 1).trans (by rw [← h00]; rfl)
  clear hz h00
  refine callsIn_of_wp Try.func68 rfl trivial ?_ rfl
  simp only [Try.ntmps68, List.size_toArray, List.length_cons, List.length_nil, Nat.reduceAdd, Nat.reduceSub, Array.replicate_succ, Array.replicate_zero, List.push_toArray, List.append_toArray, List.nil_append, List.cons_append]
  gi_wp2
  gi_loopw [10] (fun i wr => i = .int .i64 0 ∧ J [] wr) (fun _ _ => 0)
  case atStart => exact ⟨rfl, h0⟩
  case round =>
    obtain ⟨rfl, hJs⟩ := hrel
    gi_wp2
    go_end0
    exact ⟨⟨_, rfl⟩, hJs⟩
end
set_option maxRecDepth 100000 in
set_option maxHeartbeats 2000000 in
theorem dlk_ok {lo D : Nat} {w : World} {vz : Value} {d : DvR} {l : List ZcR} {k : Nat} {c : ZcR} (h : DvAt lo w D vz d l) (hc : l[k]? = some c) : Calls Try.prog 14 #[.pointer (some ⟨D, 0, none⟩), .int .i64 (k : Nat)] w fun e w' => e = .returned (.func (.func 68) #[] #[.pointer (some ⟨w.heap.size, 0, none⟩)]) ∧ w' = w.alloc (Obj.cells #[.pointer (some ⟨c.A, 0, none⟩)] 93) := by
  have hk : k < l.length := (List.getElem?_eq_some_iff.1 hc).1
  have hh : dhB l.length (k : Int) = true := by unfold dhB; simp; omega
  obtain ⟨g, cap, rfl, q1, q2, hg⟩ := h.ptr hc
  unfold maxLen at q2
  have c0 : w.cell? ⟨D, 0, none⟩ = some (.slice (some ⟨g, 0, none⟩) l.length cap) := (h.blk.cell 0).trans rfl
  have Hh := Lib.hid hh
  have H := Lib.hid h
  clear h hh hc
  go_enter Try.func14, Try.ntmps14
  go_wp2_with fail
  refine (dhol (k : Int) H.out).mono ?_
  rintro e w1 ⟨rfl, rfl⟩
  rw [Hh.out]
  go_wp2_with fail
  refine (zallF w).mono ?_
  rintro e w1 ⟨rfl, hw1⟩
  have Hw1 := Lib.hid hw1
  clear hw1 hg c0
  go_wp2_with fail
  go_ret
  exact ⟨rfl, Hw1.out⟩
end Go.Proofs.Ytajkajgnjcnolaa

namespace Go.Proofs.Ytajkajgnjcnolaa
open Go.RowKit
set_option linter.unusedVariables false
set_option linter.unusedSimpArgs false
section
variable {P : Program} {md : Region.Mode} {ops : Array Oper} {Qn : Act → Prop} {w0 : World}
def YieldsR (P : Program) (ops : Array Oper) (w0 : World) (o : Oper) (v : Value) (a : Act) : Prop :=
  (∀ c, o.op ≠ .defer c) ∧ ((Region.wanted o (yielded ops a.tmps) = true ∧ (execOp a.eval o).run P w0 = .ok (.value v) w0) ∨ (Region.wanted o (yielded ops a.tmps) = false ∧ v = undef))
def RdAny (P : Program) (md : Region.Mode) (ops : Array Oper) (Qn : Act → Prop) (w0 : World) : Nat → Array Bool → Act → Prop
  | 0, listed, a => Region.ready md ops listed = [] ∧ Qn a
  | fuel + 1, listed, a => (Region.ready md ops listed = [] → Qn a) ∧ ∀ i ∈ Region.ready md ops listed, ∃ o v, ops[i]? = some o ∧ YieldsR P ops w0 o v a ∧ RdAny P md ops Qn w0 fuel (listed.setIfInBounds i true) (a.put o.dst v)
theorem YieldsR.putR {oi oj : Oper} {v u : Value} {a : Act} (hap : oi.apart ops oj = true) (hsj : ∀ cs b, oj.op ≠ .select cs b) : YieldsR P ops w0 oj u (a.put oi.dst v) ↔ YieldsR P ops w0 oj u a := by
  obtain ⟨h1, h2, h3⟩ := Oper.apart_spec hap
  unfold YieldsR
  rw [execOp_put oj hsj a oi.dst v h1, wanted_put oj a oi.dst v h1]
theorem YieldsR.keep {oi oj : Oper} {v u : Value} {a : Act} (hap : oi.apart ops oj = true) (hsi : ∀ cs b, oi.op ≠ .select cs b) (h : YieldsR P ops w0 oi v a) : YieldsR P ops w0 oi v (a.put oj.dst u) := by
  obtain ⟨h1, h2, h3⟩ := Oper.apart_spec hap
  unfold YieldsR at *
  rw [execOp_put oi hsi a oj.dst u h3, wanted_put oi a oj.dst u h3]
  exact h
theorem RdAny.first {i : Nat} {oi : Oper} {v : Value} (hi : ops[i]? = some oi) (hsel : ∀ (j : Nat) (o : Oper) cs b, ops[j]? = some o → o.op ≠ .select cs b) :
    ∀ (fuel : Nat) (listed : Array Bool) (a : Act),
      (∀ j oj, ops[j]? = some oj → j ≠ i → listed.getD j true = false → (∀ e ∈ oj.after, Region.binds md e = true → e.on ≠ i) → oi.apart ops oj = true) →
      i ∈ Region.ready md ops listed → YieldsR P ops w0 oi v a → RdAny P md ops Qn w0 fuel (listed.setIfInBounds i true) (a.put oi.dst v) → RdAny P md ops Qn w0 (fuel + 1) listed a := by
  intro fuel
  induction fuel with
  | zero =>
    intro listed a _ hr hy H
    refine ⟨fun h => absurd hr (by rw [h]; simp), fun j hj => ?_⟩
    by_cases e : j = i
    · subst e; exact ⟨oi, v, hi, hy, H⟩
    · have := ready_mono hj e
      rw [H.1] at this
      cases this
  | succ fuel ih =>
    intro listed a hfree hr hy H
    refine ⟨fun h => absurd hr (by rw [h]; simp), fun j hj => ?_⟩
    by_cases e : j = i
    · subst e; exact ⟨oi, v, hi, hy, H⟩
    · obtain ⟨oj, u, hoj, hyj, Hj⟩ := H.2 j (ready_mono hj e)
      obtain ⟨hjun, oj', hoj', hall⟩ := mem_ready.1 hj
      obtain rfl : oj = oj' := by rw [hoj] at hoj'; exact Option.some.inj hoj'
      have hno : ∀ d ∈ oj.after, Region.binds md d = true → d.on ≠ i := fun d hd hb heq => by
        have q1 := hall d hd hb
        have q0 := (mem_ready.1 hr).1
        rw [heq] at q1
        rcases Nat.lt_or_ge i listed.size with h' | h'
        · simp [h'] at q0 q1; rw [q0] at q1; cases q1
        · simp [Array.getElem?_eq_none h'] at q1
      have hap := hfree j oj hoj e hjun hno
      obtain ⟨_, h2, _⟩ := Oper.apart_spec hap
      refine ⟨oj, u, hoj, (YieldsR.putR hap (fun cs b => hsel j oj cs b hoj)).1 hyj, ih _ _ (fun k ok hk hki hun hn => ?_) (ready_mono hr (Ne.symm e)) (YieldsR.keep hap (fun cs b => hsel i oi cs b hi) hy) ?_⟩
      · refine hfree k ok hk hki ?_ hn
        by_cases hjk : j = k
        · subst hjk; exact hjun
        · rw [getD_set_ne true hjk] at hun; exact hun
      · rw [Array.setIfInBounds_comm _ _ e, ← Act.put_comm a v u h2]
        exact Hj
theorem RdAny.done {listed : Array Bool} {a : Act} (hr : Region.ready md ops listed = []) (h : Qn a) : ∀ fuel, RdAny P md ops Qn w0 fuel listed a
  | 0 => ⟨hr, h⟩
  | _ + 1 => ⟨fun _ => h, by rw [hr]; simp⟩
end
theorem wp_rangeB {α : Type} {P : Program} {g : Operand} {ps : Array Tmp} {assign body : Code} {Q : Exit → Act → World → Prop} {a : Act} {w : World} {gf : Nat} {lb : Array Value} {encs : α → Array Value} {Kp : World → World → Prop} {S Sp : List α → Prop} {N : Nat}
    (hg : a.eval g = .func (.func gf) #[] lb) (eg : ∀ args w, (callFunc gf args).run P w = .ok (.enter gf args) w) {w0 : World} (hseq : SeqStopsK Fence.wide 7 P gf lb encs Kp S Sp N w0)
    (hKt : ∀ {A B C : World}, Kp A B → Kp B C → Kp A C) (hKb : ∀ (W : World) (l : Nat) (o o' : Obj), w.heap.size ≤ l → W.heap[l]? = some o → o.isCells = false → o.isWalk = false → Kp W (W.putObj l o')) (hb0 : Below w0.heap.size w0 w) (hps : ∀ x, (encs x).size = ps.size)
    (I : List α → World → Prop) (Ix : Code → List α → World → Prop) (hI : OwnFrom w.heap.size I) (hIx : ∀ c, OwnFrom w.heap.size (Ix c)) (h0 : I [] w) (T : TypeId) (box : α → Array Value) (a₁ : α → Nat → Act)
    (hKa : ∀ (pre : List α) (x : α) (W : World), I pre W → Kp W (W.alloc (.cells (box x) T)))
    (hassign : ∀ (l : Nat) (pre : List α) (x : α) (W : World) (K : Act → World → Prop), I pre W → K (a₁ x W.heap.size) (W.alloc (.cells (box x) T)) →
      assign.wpIn (Fence.wide.inRound l) 6 P (Exit.then K (fun _ _ _ => False)) { tmps := (ps.zip (encs x)).foldl (fun t (p, v) => t.setIfInBounds p v) a.tmps, defers := [] } W)
    (hbody : ∀ (l : Nat) (pre : List α) (x : α) (b : Nat) (W : World), I pre W → Blk W b T (box x) → pre.length < N → body.wpIn (Fence.wide.inRound l) 6 P (ownPostG w.heap.size Kp I Ix (pre ++ [x]) W) (a₁ x b) W)
    (hdone : ∀ (D : Nat) (ys : List α) (W : World), w.heap.size ≤ D → S ys → I ys W → W.heap[D]? = some (.deferred (some [])) → Q .normal { a with defers := { target := .collected D, args := #[] } :: a.defers } W)
    (hstop : ∀ (D : Nat) (c : Code) (pre : List α) (W : World), w.heap.size ≤ D → Sp pre → Ix c pre W → W.heap[D]? = some (.deferred (some [])) → c.wp P Q { a with defers := { target := .collected D, args := #[] } :: a.defers } W) :
    (Code.rangeFunc g ps assign body).wp P Q a w :=
  wpIn_wide.1 (wpIn_rangeFunc_ownH (n := 8) rfl (by decide) hg trivial eg hseq (fun h k => hKt h k) hKb hb0 hps I Ix hI hIx h0 (fun x a' W => ∃ b, Blk W b T (box x) ∧ a' = a₁ x b)
    (fun x a' s X Y row ⟨b, hb, e⟩ hg' hr => ⟨b, Own.from (blk_own (β := Unit) b T (fun _ => box x)) _ s X Y row hb hg' hr, e⟩)
    (fun l pre x W K hi hK => hassign l pre x W K hi (hK _ _ ((KeepsOthers.alloc _ _).from _) (hKa pre x W hi) (hI.alloc _ hi) ⟨_, Blk.new _ _ _, rfl⟩))
    (fun l pre x a' W _ _ hi ⟨b, hb, e⟩ hlt => by subst e; exact hbody l pre x b W hi hb hlt)
    hdone (fun D c pre W hD hp hi hk => wpIn_wide.2 (hstop D c pre W hD hp hi hk)))
end Go.Proofs.Ytajkajgnjcnolaa

namespace Go.Proofs.Ytajkajgnjcnolaa
open Go.RowKit Go.Shelf
attribute [local go_sem] Oper.semAt_some
set_option linter.unusedVariables false
set_option linter.unnecessarySimpa false
set_option linter.unusedSimpArgs false
theorem below_eqD {w w' : World} (h : w = w') : Below w.heap.size w w' := h ▸ Below.refl _ _
theorem kept_grown {W W' : World} {row : Option Nat} (hg : W.grownBy W' row) : Kept (fun i => row = some i) W W' := ⟨hg.os, hg.tape, hg.output, hg.size, fun k hk hn => hg.block k hk (fun e => hn e.symm)⟩
theorem own_cells {w : World} {base : Nat} {e : TypeId} {s n : Nat} {v : Value} {xs : List Value} (h : w.ownsRow base e s v n xs) {g : Nat} (hg : v.ownBlock = some g) : ∃ o : Obj, w.heap[g]? = some o ∧ o.isCells = true := by
  rcases h.2 with ⟨rfl, _⟩ | ⟨g', cap, cur, rfl, _, hh, _⟩
  · simp [Value.ownBlock] at hg
  · obtain rfl : g' = g := by simpa [Value.ownBlock] using hg
    exact ⟨_, hh, rfl⟩
section
variable {lo D : Nat} {w w' W W' : World} {vz v7 : Value} {d : DvR} {l : List ZcR} {zs : List ZsR}
theorem DvAt.cells (h : DvAt lo w D vz d l) {i : Nat} (hi : DvF D vz l i) : ∃ o : Obj, w.heap[i]? = some o ∧ o.isCells = true := by
  rcases hi with rfl | hi | ⟨c, hc, rfl | hi⟩
  · exact ⟨_, h.blk, rfl⟩
  · exact own_cells h.own hi
  · obtain ⟨j, hj⟩ := List.getElem?_of_mem hc
    exact ⟨_, (h.each j c hj).blk, rfl⟩
  · obtain ⟨j, hj⟩ := List.getElem?_of_mem hc
    exact own_cells (h.each j c hj).own hi
theorem ownF_dv {β : Type} {B : Nat} : OwnFrom (β := β) B (fun _ W => DvAt lo W D vz d l) := fun s X Y row h hg hr => h.kept (kept_grown hg) (fun i hi e => by
  obtain ⟨_, o, ho, hc⟩ := hr i e
  obtain ⟨o', ho', hc'⟩ := h.cells hi
  rw [ho'] at ho
  cases ho
  rw [hc'] at hc
  cases hc)
theorem ownF_rowK {β : Type} {B : Nat} {e : TypeId} {s n : Nat} {v : Value} {xs : List Value} : OwnFrom (β := β) B (fun _ W => W.ownsRow lo e s v n xs) := fun _ X Y row h hg hr => own_kept h (kept_grown hg) (fun g hgo e => by
  obtain ⟨_, o, h1, hc⟩ := hr g e
  obtain ⟨o', h2, hc'⟩ := own_cells h hgo
  rw [h2] at h1
  cases h1
  rw [hc'] at hc
  cases hc)
theorem ownF_doc {β : Type} {B : Nat} : OwnFrom (β := β) B (fun _ W => Doc lo W v7 zs) := fun s X Y row h hg hr => by
  obtain ⟨l7, r, m⟩ := h
  have key : ∀ {e : TypeId} {s n : Nat} {v : Value} {xs : List Value}, X.ownsRow lo e s v n xs → ∀ g, v.ownBlock = some g → ¬ row = some g := fun ho g hgo e => by
    obtain ⟨_, o, h1, hc⟩ := hr g e
    obtain ⟨o', h2, hc'⟩ := own_cells ho hgo
    rw [h2] at h1
    cases h1
    rw [hc'] at hc
    cases hc
  exact ⟨l7, ⟨own_kept r.own (kept_grown hg) (key r.own), fun p hp => own_kept (r.each p hp) (kept_grown hg) (key (r.each p hp))⟩, m⟩
structure SmD (lo D : Nat) (vz v7 : Value) (d : DvR) (l : List ZcR) (w W : World) : Prop where
  X : Blk W w.heap.size 27 (d7A (dd7 d) v7)
  T : Blk W (w.heap.size + 1) 4 #[.bool false]
  dv : DvAt lo W D vz d l
  doc : Doc lo W v7 (l.map ZcR.z)
  B : Below w.heap.size w W
theorem SmD.below (h : SmD lo D vz v7 d l w W) (hb : Below W.heap.size W W') : SmD lo D vz v7 d l w W' := ⟨h.X.below hb h.X.lt, h.T.below hb h.T.lt, h.dv.below hb, h.doc.below hb, bthen' h.B hb⟩
theorem SmD.keptB {g : Nat} {U : TypeId} {cs : Array Value} (h : SmD lo D vz v7 d l w W) (hg : Blk W g U cs) (hl : w.heap.size + 1 < g) (h1 : U ≠ 96) (h2 : U ≠ 93) (h3 : U ≠ 114) (h4 : U ≠ 34) (h5 : 87 ≠ U) (h6 : 33 ≠ U) (hk : Kept (· = g) W W') : SmD lo D vz v7 d l w W' := by
  obtain ⟨l7, r, m⟩ := h.doc
  exact ⟨h.X.kept hk (by omega), h.T.kept hk (by omega), h.dv.kept hk (fun i hi e => h.dv.notblk hg h1 h2 h3 h4 (e ▸ hi)), ⟨l7, r.keptB hg h5 h6 hk, m⟩, bkept h.B (Nat.le_refl _) hk (fun i hi e => by omega)⟩
theorem SmD.ownF {β : Type} {B : Nat} (hB : w.heap.size ≤ B) : OwnFrom (β := β) B (fun _ W => SmD lo D vz v7 d l w W) := fun s X Y row h hg hr =>
  ⟨Own.from (blk_own (β := β) _ _ (fun _ => _)) B s X Y row h.X hg hr, Own.from (blk_own (β := β) _ _ (fun _ => _)) B s X Y row h.T hg hr, ownF_dv s X Y row h.dv hg hr, ownF_doc s X Y row h.doc hg hr, ownFrom_below (β := β) (Nat.le_refl _) hB s X Y row h.B hg hr⟩
end
def frD (g : Nat → Value) : Array Value := ((List.range 112).map g).toArray
theorem frD_of {t : Array Value} (h : t.size = 112) : t = frD (fun i => t.getD i undef) := by
  apply Array.ext'
  apply List.ext_getElem
  · simp [frD, h]
  · intro i h1 h2
    simp only [frD, List.getElem_map, List.getElem_range]
    have h1' : i < t.size := by simpa using h1
    simp [Array.getD, h1']
structure FxD (D : Nat) (a7 : Option Addr) (c7 : Nat) (d : DvR) (l : List ZcR) (n k : Nat) (g : Nat → Value) : Prop where
  s0 : g 0 = .pointer (some ⟨D, 0, none⟩)
  s1 : g 1 = .agg (d7A (dd7 d) (.slice a7 l.length c7))
  s2 : g 2 = undef
  s3 : g 3 = .pointer (some ⟨n, 0, none⟩)
  s4 : g 4 = .pointer (some ⟨n + 1, 0, none⟩)
  s10 : g 10 = .pointer (some ⟨D, 0, none⟩)
  s11 : g 11 = .int .i64 (l.length : Nat)
  s12 : g 12 = .pointer (some ⟨n, 0, none⟩)
  s13 : g 13 = .slice a7 l.length c7
  s14 : g 14 = .int .i64 (l.length : Nat)
  s15 : g 15 = .bool false
  s16 : g 16 = .bool false
  s17 : g 17 = .pointer (some ⟨D, 0, none⟩)
  s18 : g 18 = .int .i64 d.size
  s19 : g 19 = .pointer (some ⟨n, 1, none⟩)
  s20 : g 20 = .int .i64 d.size
  s21 : g 21 = .bool false
  s22 : g 22 = .bool false
  s23 : g 23 = .bool false
  s24 : g 24 = .pointer (some ⟨D, 0, none⟩)
  s25 : g 25 = .int .i64 d.count
  s26 : g 26 = .pointer (some ⟨n, 3, none⟩)
  s27 : g 27 = .int .i64 d.count
  s28 : g 28 = .bool false
  s29 : g 29 = .bool false
  s30 : g 30 = .bool false
  s31 : g 31 = .pointer (some ⟨D, 0, none⟩)
  s32 : g 32 = .bool d.down
  s33 : g 33 = .pointer (some ⟨n, 4, none⟩)
  s34 : g 34 = .bool d.down
  s35 : g 35 = .bool false
  s36 : g 36 = .bool false
  s37 : g 37 = .bool false
  s38 : g 38 = .pointer (some ⟨D, 0, none⟩)
  s39 : g 39 = .int .i64 4
  s40 : g 40 = .bool false
  s41 : g 41 = .bool false
  s42 : g 42 = .bool false
  s43 : g 43 = .pointer (some ⟨D, 0, none⟩)
  s44 : g 44 = .pointer (some ⟨n, 0, none⟩)
  s45 : g 45 = .slice a7 l.length c7
  s46 : g 46 = .int .i64 (l.length : Nat)
  s47 : g 47 = .int .i64 0
  s48 : g 48 = .bool false
  s49 : g 49 = .bool false
  s50 : g 50 = .pointer (some ⟨n, 0, none⟩)
  s51 : g 51 = .slice a7 l.length c7
  s52 : g 52 = .int .i64 (l.length : Nat)
  s53 : g 53 = .int .i64 (k : Nat)
  s105 : g 105 = undef
  s106 : g 106 = undef
  s107 : g 107 = undef
  s108 : g 108 = undef
  s109 : g 109 = undef
  s110 : g 110 = undef
  s111 : g 111 = undef
def RelD (lo D : Nat) (vz : Value) (a7 : Option Addr) (c7 : Nat) (d : DvR) (l : List ZcR) (w : World) (a' : Act) (V : World) : Prop :=
  ∃ (k : Nat) (ds : List Deferred) (g : Nat → Value), a' = { tmps := frD g, defers := ds } ∧ FxD D a7 c7 d l w.heap.size k g ∧ k ≤ l.length ∧ SmD lo D vz (.slice a7 l.length c7) d l w V ∧ Marks w.heap.size ds V
theorem RelD.mk {lo D : Nat} {vz : Value} {a7 : Option Addr} {c7 : Nat} {d : DvR} {l : List ZcR} {w V : World} {t : Array Value} {ds : List Deferred} (k : Nat) (h : t.size = 112) (hf : FxD D a7 c7 d l w.heap.size k (fun i => t.getD i undef)) (hk : k ≤ l.length) (hS : SmD lo D vz (.slice a7 l.length c7) d l w V) (hM : Marks w.heap.size ds V) : RelD lo D vz a7 c7 d l w { tmps := t, defers := ds } V :=
  ⟨k, ds, fun i => t.getD i undef, by rw [← frD_of h], hf, hk, hS, hM⟩
end Go.Proofs.Ytajkajgnjcnolaa

namespace Go.Proofs.Ytajkajgnjcnolaa
open Go.RowKit
set_option linter.unusedVariables false
set_option linter.unnecessarySimpa false
set_option linter.unusedSimpArgs false
section
variable {C : Drv} {lo X B : Nat} {w W W' : World} {S : St8} {F : Nat → Prop} {vz vc vh : Value} {R : DuR}
theorem ownF_at {β : Type} (hlt : ∀ i, F i → i < B) : OwnFrom (β := β) B (fun _ W => C.At lo W X S F) := fun s W W' row h hg hr => C.kept h (kept_grown hg) (fun i hi e => by have := (hr i e).1; have := hlt i hi; omega)
theorem ownF_rd {β : Type} {T : TypeId} {v : Value} {es : List EvR} : OwnFrom (β := β) B (fun _ W => RdE T lo W v es) := fun s W W' row h hg hr => h.kept (kept_grown hg) (fun g hgo e => by
  obtain ⟨_, o, h1, hc⟩ := hr g e
  obtain ⟨cur, hb⟩ := h.blk hgo
  have h2 : W.heap[g]? = some (.cells cur T (0, 0)) := hb
  rw [h2] at h1
  cases h1
  cases hc)
theorem ownF_rowE {β : Type} {T : TypeId} {v : Value} {es : List EvR} : OwnFrom (β := β) B (fun _ W => RowE T lo W v es) := fun s W W' row h hg hr => ⟨h.ok, ownF_rowK (β := β) (B := B) s W W' row h.own hg hr⟩
theorem ownF_dc {β : Type} : OwnFrom (β := β) B (fun _ W => Dc lo W vz vc vh R) := fun s W W' row h hg hr => ⟨ownF_doc (β := β) (B := B) s W W' row h.zs hg hr, ownF_rd (β := β) (B := B) s W W' row h.cs hg hr, ownF_rowE (β := β) (B := B) s W W' row h.h hg hr⟩
structure Sm8 (C : Drv) (lo X : Nat) (S : St8) (F : Nat → Prop) (vz vc vh : Value) (w W : World) : Prop where
  x : Blk W w.heap.size 30 (d8A (dd7 S.R.d) vz vc vh)
  T : Blk W (w.heap.size + 1) 4 #[.bool false]
  at_ : C.At lo W X S F
  dc : Dc lo W vz vc vh S.R
  B : Below w.heap.size w W
  fresh : ∀ i, F i → i < w.heap.size
theorem Sm8.below (h : Sm8 C lo X S F vz vc vh w W) (hb : Below W.heap.size W W') : Sm8 C lo X S F vz vc vh w W' := ⟨h.x.below hb h.x.lt, h.T.below hb h.T.lt, C.below h.at_ hb, h.dc.below hb, bthen' h.B hb, h.fresh⟩
theorem Sm8.keptB {g : Nat} {U : TypeId} {cs : Array Value} (h : Sm8 C lo X S F vz vc vh w W) (hg : Blk W g U cs) (hl : w.heap.size + 1 < g) (h1 : U ≠ 83) (h2 : U ≠ 87) (h3 : U ≠ 33) (hk : Kept (· = g) W W') : Sm8 C lo X S F vz vc vh w W' :=
  ⟨h.x.kept hk (by omega), h.T.kept hk (by omega), C.kept h.at_ hk (fun i hi e => by have := h.fresh i hi; omega), h.dc.keptB hg h1 h2 h3 hk, bkept h.B (Nat.le_refl _) hk (fun i hi e => by omega), h.fresh⟩
theorem Sm8.ownF {β : Type} (hB : w.heap.size ≤ B) : OwnFrom (β := β) B (fun _ W => Sm8 C lo X S F vz vc vh w W) := fun s V V' row h hg hr =>
  ⟨Own.from (blk_own (β := β) _ _ (fun _ => _)) B s V V' row h.x hg hr, Own.from (blk_own (β := β) _ _ (fun _ => _)) B s V V' row h.T hg hr, ownF_at (C := C) (fun i hi => by have := h.fresh i hi; omega) s V V' row h.at_ hg hr, ownF_dc (β := β) (B := B) s V V' row h.dc hg hr, ownFrom_below (β := β) (Nat.le_refl _) hB s V V' row h.B hg hr, h.fresh⟩
end
def KpF (F : Nat → Prop) (W W' : World) : Prop := ∀ i, F i → W'.heap[i]? = W.heap[i]?
theorem KpF.refl (F : Nat → Prop) (W : World) : KpF F W W := fun _ _ => rfl
theorem KpF.trans {F : Nat → Prop} {a b c : World} (h : KpF F a b) (k : KpF F b c) : KpF F a c := fun i hi => (k i hi).trans (h i hi)
theorem KpF.set {F : Nat → Prop} {W : World} {p : Addr} (u : Value) (h : ¬ F p.block) : KpF F W (W.setCell p u) := fun i hi => Below.heap_setCell _ _ _ _ (fun e => h (e ▸ hi))
theorem KpF.alloc {F : Nat → Prop} {W : World} (hF : ∀ i, F i → i < W.heap.size) (o : Obj) : KpF F W (W.alloc o) := fun i hi => Below.heap_alloc W o i (hF i hi)
end Go.Proofs.Ytajkajgnjcnolaa

namespace Go.Proofs.Ytajkajgnjcnolaa
open Go.RowKit
set_option linter.unusedVariables false
set_option linter.unnecessarySimpa false
set_option linter.unusedSimpArgs false
def ins (e : EvR) : List EvR → List EvR
  | [] => [e]
  | x :: l => if e.at_ < x.at_ then e :: x :: l else x :: ins e l
theorem pl_done (e : EvR) (l acc : List EvR) : l.foldl (plStep e) (acc, true) = (acc ++ l, true) := by
  induction l generalizing acc with
  | nil => simp
  | cons x l ih =>
    have h : plStep e (acc, true) x = (acc ++ [x], true) := if_neg (by simp)
    rw [List.foldl_cons, h, ih]
    simp
theorem pl_ins (e : EvR) (l acc : List EvR) : (if (l.foldl (plStep e) (acc, false)).2 = true then (l.foldl (plStep e) (acc, false)).1 else (l.foldl (plStep e) (acc, false)).1 ++ [e]) = acc ++ ins e l := by
  induction l generalizing acc with
  | nil => simp [ins]
  | cons x l ih =>
    rw [List.foldl_cons]
    by_cases hx : e.at_ < x.at_
    · have h : plStep e (acc, false) x = (acc ++ [e] ++ [x], true) := if_pos ⟨rfl, hx⟩
      rw [h, pl_done]
      simp [ins, hx]
    · have h : plStep e (acc, false) x = (acc ++ [x], false) := if_neg (fun h => hx h.2)
      rw [h, ih]
      simp [ins, hx]
theorem plI_ins (e : EvR) (es : List EvR) : plI e es = ins e es := by
  have h := pl_ins e es []
  rw [List.nil_append] at h
  exact h
theorem ins_length (e : EvR) (es : List EvR) : (ins e es).length = es.length + 1 := by
  induction es with
  | nil => rfl
  | cons x l ih => unfold ins; split <;> simp [ih]
theorem ins_mem (e x : EvR) (es : List EvR) : x ∈ ins e es ↔ x = e ∨ x ∈ es := by
  induction es with
  | nil => simp [ins]
  | cons y l ih =>
    unfold ins
    split
    · simp
    · rw [List.mem_cons, ih, List.mem_cons]
      constructor
      · rintro (h | h | h)
        · exact .inr (.inl h)
        · exact .inl h
        · exact .inr (.inr h)
      · rintro (h | h | h)
        · exact .inr (.inl h)
        · exact .inl h
        · exact .inr (.inr h)
def SortE (es : List EvR) : Prop := es.Pairwise (fun a b => a.at_ ≤ b.at_)
theorem ins_sort {e : EvR} {es : List EvR} (h : SortE es) : SortE (ins e es) := by
  unfold SortE at *
  induction es with
  | nil => simp [ins]
  | cons x l ih =>
    obtain ⟨h1, h2⟩ := List.pairwise_cons.1 h
    unfold ins
    by_cases hx : e.at_ < x.at_
    · rw [if_pos hx]
      refine List.pairwise_cons.2 ⟨fun y hy => ?_, h⟩
      rcases List.mem_cons.1 hy with rfl | hy
      · omega
      · have := h1 y hy; omega
    · rw [if_neg hx]
      refine List.pairwise_cons.2 ⟨fun y hy => ?_, ih h2⟩
      rcases (ins_mem _ _ _).1 hy with rfl | hy
      · omega
      · exact h1 y hy
structure OrI (S : St8) (m : Nat) : Prop where
  sort : SortE S.R.cs
  pos : ∀ e ∈ S.R.cs, 0 ≤ e.at_
  hap : ∀ e ∈ S.R.h, e.at_ ≤ S.R.d.count
  num : S.R.h.length + S.R.cs.length = m
theorem dueF_or : ∀ (cs : List EvR) (d : DvR) (zs : List ZsR) (h : List EvR), SortE cs → (∀ e ∈ cs, 0 ≤ e.at_) → (∀ e ∈ h, e.at_ ≤ d.count) →
    SortE (dueF d zs cs h).cs ∧ (∀ e ∈ (dueF d zs cs h).cs, 0 ≤ e.at_) ∧ (∀ e ∈ (dueF d zs cs h).h, e.at_ ≤ (dueF d zs cs h).d.count) ∧ (dueF d zs cs h).h.length + (dueF d zs cs h).cs.length = h.length + cs.length
  | [], d, zs, h, h1, h2, h3 => ⟨h1, h2, h3, rfl⟩
  | e :: cs, d, zs, h, h1, h2, h3 => by
    by_cases hg : d.down = false ∧ e.at_ ≤ d.count
    · rw [dueF_go hg.1 hg.2]
      have hc := (hapSp_count d zs e).1
      obtain ⟨k1, k2, k3, k4⟩ := dueF_or cs (hapSp d zs e).d (hapSp d zs e).zs (h ++ [e]) (List.pairwise_cons.1 h1).2 (fun x hx => h2 x (by simp [hx])) (fun x hx => by
        rw [hc]
        rcases List.mem_append.1 hx with hx | hx
        · exact h3 x hx
        · obtain rfl := List.mem_singleton.1 hx
          exact hg.2)
      exact ⟨k1, k2, k3, by rw [k4]; simp; omega⟩
    · have hE : dueF d zs (e :: cs) h = ⟨d, zs, e :: cs, h⟩ := by rw [dueF, if_neg hg]
      rw [hE]
      exact ⟨h1, h2, h3, rfl⟩
theorem OrI.due {S : St8} {m : Nat} (h : OrI S m) (z : Int) (fl : Bool) : OrI (S.due z fl) m := by
  have hR : (S.due z fl).R = dueD S.R.d S.R.zs S.R.cs S.R.h z fl := rfl
  have key : ∀ R : DuR, (S.due z fl).R = R → SortE R.cs → (∀ e ∈ R.cs, 0 ≤ e.at_) → (∀ e ∈ R.h, e.at_ ≤ R.d.count) → R.h.length + R.cs.length = m → OrI (S.due z fl) m := fun R e a b c d => by
    subst e; exact ⟨a, b, c, d⟩
  unfold dueD at hR
  split at hR
  · obtain ⟨k1, k2, k3, k4⟩ := dueF_or S.R.cs S.R.d S.R.zs S.R.h h.sort h.pos h.hap
    exact key _ hR k1 k2 k3 (k4.trans h.num)
  · exact key _ hR h.sort h.pos h.hap h.num
theorem OrI.put {S : St8} {m : Nat} (h : OrI S m) {O : OutR} (hO : Keep7 S.R.d S.R.zs O) (M : Mk) : OrI (S.put O M) m :=
  ⟨h.sort, h.pos, fun e he => Int.le_trans (h.hap e he) hO.2.1, h.num⟩
def evRight (e : EvR) : Bool := decide (0 ≤ e.at_) && (decide (1 ≤ e.kind) && decide (e.kind ≤ 4))
theorem OrI.pl {S : St8} {m : Nat} (h : OrI S m) (e : EvR) (hc : S.R.cs.length < 256) : OrI (S.pl e) (if evRight e = true then m + 1 else m) := by
  by_cases hr : evRight e = true
  · rw [if_pos hr]
    have hr' : 0 ≤ e.at_ ∧ 1 ≤ e.kind ∧ e.kind ≤ 4 := by unfold evRight at hr; simpa using hr
    have hE : plE e S.R.cs = 0 := by unfold plE; rw [if_neg (by omega), if_neg (by omega)]
    have hL : plL e S.R.cs = ins e S.R.cs := by unfold plL; rw [if_pos hE, plI_ins]
    refine ⟨by show SortE (plL e S.R.cs); rw [hL]; exact ins_sort h.sort, fun x hx => ?_, h.hap, by show S.R.h.length + (plL e S.R.cs).length = _; rw [hL, ins_length]; have := h.num; omega⟩
    have hx' : x ∈ ins e S.R.cs := by rw [← hL]; exact hx
    rcases (ins_mem _ _ _).1 hx' with rfl | hx'
    · exact hr'.1
    · exact h.pos x hx'
  · rw [if_neg hr]
    have hr' : ¬ (0 ≤ e.at_ ∧ 1 ≤ e.kind ∧ e.kind ≤ 4) := fun hh => hr (by unfold evRight; simpa using hh)
    have hE : plE e S.R.cs = 10 := by unfold plE; rw [if_pos (by omega)]
    have hL : plL e S.R.cs = S.R.cs := by unfold plL; rw [if_neg (by rw [hE]; decide)]
    exact ⟨by show SortE (plL e S.R.cs); rw [hL]; exact h.sort, by show ∀ x ∈ plL e S.R.cs, _; rw [hL]; exact h.pos, h.hap, by show S.R.h.length + (plL e S.R.cs).length = _; rw [hL]; exact h.num⟩
theorem OrI.next {S : St8} {m : Nat} (h : OrI S m) (o : Op8) (h8 : o.k ≠ 8) (hc : m < 256) : OrI (st8 S o) (if o.k = 7 ∧ evRight o.e = true then m + 1 else m) := by
  have hcl : S.R.cs.length < 256 := by have := h.num; omega
  by_cases h7 : o.k = 7
  · have hs : st8 S o = S.pl o.e := by unfold st8; simp [h7]
    rw [hs]
    have := h.pl o.e hcl
    by_cases hr : evRight o.e = true
    · rw [if_pos ⟨h7, hr⟩]; rwa [if_pos hr] at this
    · rw [if_neg (fun hh => hr hh.2)]; rwa [if_neg hr] at this
  · rw [if_neg (fun hh => h7 hh.1)]
    unfold st8
    split
    · exact (h.due _ _).put (apK _ _ _ _) _
    · split
      · exact (h.due _ _).put (rdK _ _ _ _) _
      · split
        · exact (h.due _ _).put (rsK _ _ _) _
        · split
          · exact (h.due _ _).put (fnK _ _ _) _
          · split
            · exact (h.due _ _).put (flK _ _) _
            · split
              · exact h.put (rvK _ _ _) _
              · exact h
section
variable (d : DvR) (zs : List ZsR)
theorem ap_dn (i : Int) (s : List Nat) : (apSp d zs i s).d.down = d.down := by
  unfold apSp
  split
  · rfl
  · split <;> rfl
theorem rd_dn (i off : Int) : (rdSp d zs i off).d.down = d.down := by unfold rdSp; split <;> rfl
theorem rs_dn (i : Int) : (rsSp d zs i).d.down = d.down := by unfold rsSp; split <;> rfl
theorem fn_dn (i : Int) : (fnSp d zs i).d.down = d.down := by unfold fnSp; split <;> rfl
theorem fl_dn : (flSp d zs).d.down = d.down := by unfold flSp; split <;> rfl
theorem rv_dn (ks : List Int) (h : d.down = false) : (rvSp d zs ks).d.down = false := by unfold rvSp; split <;> first | rfl | exact h
end
structure CalmI (S : St8) : Prop where
  cs : S.R.cs = []
  h : S.R.h = []
  up : S.R.d.down = false
  M : ∀ z o, S.M z o = (zeros 64, 0)
theorem CalmI.due {S : St8} (h : CalmI S) (z : Int) (fl : Bool) : S.due z fl = S := by
  obtain ⟨⟨d, zs, cs, hh⟩, M⟩ := S
  have h1 : cs = [] := h.cs
  subst h1
  unfold St8.due dueD
  dsimp only
  split <;> rfl
theorem mk0_calm {M : Mk} (h : ∀ z o, M z o = (zeros 64, 0)) (a b : Int) : ∀ z o, mk0 M a b z o = (zeros 64, 0) := fun z o => by
  unfold mk0; split
  · rfl
  · exact h z o
theorem CalmI.next {S : St8} (h : CalmI S) (o : Op8) (h6 : o.k ≤ 6) : CalmI (st8 S o) := by
  have hd := fun z fl => h.due z fl
  unfold st8
  split
  · unfold St8.ap
    rw [hd]
    refine ⟨h.cs, h.h, (ap_dn _ _ _ _).trans (by rw [hd]; exact h.up), fun z o' => ?_⟩
    show (if _ then mk0 S.M _ _ else S.M) z o' = _
    split
    · exact mk0_calm h.M _ _ z o'
    · exact h.M z o'
  · split
    · unfold St8.rd; rw [hd]; exact ⟨h.cs, h.h, (rd_dn _ _ _ _).trans (by rw [hd]; exact h.up), h.M⟩
    · split
      · unfold St8.rs; rw [hd]; exact ⟨h.cs, h.h, (rs_dn _ _ _).trans (by rw [hd]; exact h.up), h.M⟩
      · split
        · unfold St8.fn; rw [hd]; exact ⟨h.cs, h.h, (fn_dn _ _ _).trans (by rw [hd]; exact h.up), h.M⟩
        · split
          · unfold St8.fl; rw [hd]; exact ⟨h.cs, h.h, (fl_dn _ _).trans (by rw [hd]; exact h.up), h.M⟩
          · split
            · exact ⟨h.cs, h.h, rv_dn _ _ _ h.up, h.M⟩
            · rw [if_neg (by omega), if_neg (by omega)]; exact h
end Go.Proofs.Ytajkajgnjcnolaa

