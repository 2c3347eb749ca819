import Derived.Test.YtajkajgnjcnolaaMp18
namespace Go.Proofs.Ytajkajgnjcnolaa
open Go.RowKit
set_option linter.unusedVariables false
set_option linter.unnecessarySimpa false
set_option linter.unusedSimpArgs false
section
variable {P : Program} {w : World} {ops : Array Oper} {rest : List Oper} {o : Oper} {a : Act} {Q : Exit → Act → World → Prop}
theorem exec_indexO {S E : TypeId} {sz : Nat} (T : ElK P S E sz) (x ix : Operand) (ho : o.op = .indexAddr S x ix) (g off n c i : Nat) (hx : a.eval x = .slice (some ⟨g, off, none⟩) n c) (hix : a.eval ix = .int .i64 (i : Nat)) (hi : i < n) : (execOp a.eval o).run P w = .ok (.value (.pointer (some ⟨g, off + i * sz, none⟩))) w := by
  obtain ⟨i0, z0, hi0, hz0, hz1, hz2, hz3⟩ := T.info
  have hb : (0 : Int) ≤ (i : Nat) ∧ ((i : Nat) : Int) < (n : Nat) := by omega
  have hadd : (⟨g, off, none⟩ : Addr).add (i * sz) = ⟨g, off + i * sz, none⟩ := Addr.add_mid g off (i * sz)
  unfold execOp
  simp only [ho, hx, hix]
  simp [Instr.indexAt, asIntOf, run_underlying T.und, sizeOf, typeInfo, hi0, hb, hz1, hadd, hi]
theorem wpl_appendE {S E : TypeId} (T : ElK P S E 68) (hgd : o.guard = none) (s x : Operand) (ho : o.op = .call { callee := .builtin .append, args := #[s, x], argTypes := #[S, S] })
    (base : Nat) (v : Value) (es : List EvR) (hs : a.eval s = v) (hown : RowE E base w v es) (b : Nat) (e : EvR) (hx : a.eval x = .slice (some ⟨b, 0, none⟩) 1 1) (hb : Blk w b E (evA e)) (he : EvOk e) (hk : es.length ≤ 1000000) (hbase : base ≤ w.heap.size)
    (h : ∀ an cn w', RowE E base w' (.slice an (es.length + 1) cn) (es ++ [e]) → w.grownBy w' v.ownBlock → wpList P ops Q rest (a.put o.dst (.slice an (es.length + 1) cn)) w') : wpList P ops Q (o :: rest) a w := by
  refine wpl_appendK T hgd s x ho base v es.length (erow es) hs hown.own (some ⟨b, 0, none⟩) 1 1 (evL e) hx (by rw [evL_length he.len]) (fun e => by cases e) (fun ad had j u hu => ?_) (evL_one e) (by omega) hbase (fun v' w' h1 h2 _ => ?_)
  · injection had with had
    subst had
    rw [show (⟨b, 0, none⟩ : Addr).add j = ⟨b, j, none⟩ by have := Addr.add_mid b 0 j; rwa [Nat.zero_add] at this, hb.cell j]
    simpa [evA, mixA, evL] using hu
  · obtain ⟨an, cn, rfl⟩ := own_slice h1
    refine h an cn w' ⟨fun y hy => ?_, ?_⟩ h2
    · rcases List.mem_append.1 hy with hy | hy
      · exact hown.ok y hy
      · obtain rfl := List.mem_singleton.1 hy
        exact he
    · rw [erow_append, erow_single, List.length_append]
      exact h1
end
def plStep (e : EvR) (r : List EvR × Bool) (x : EvR) : List EvR × Bool := if r.2 = false ∧ e.at_ < x.at_ then (r.1 ++ [e] ++ [x], true) else (r.1 ++ [x], r.2)
def plS (e : EvR) (l : List EvR) : List EvR × Bool := l.foldl (plStep e) ([], false)
def plI (e : EvR) (l : List EvR) : List EvR := if (plS e l).2 = true then (plS e l).1 else (plS e l).1 ++ [e]
def plE (e : EvR) (es : List EvR) : Int := if e.at_ < 0 ∨ e.kind < 1 ∨ 4 < e.kind then 10 else if 256 ≤ es.length then 17 else 0
def plL (e : EvR) (es : List EvR) : List EvR := if plE e es = 0 then plI e es else es
theorem plS_step {e x : EvR} {l : List EvR} {j : Nat} (hx : l[j]? = some x) : plS e (l.take (j + 1)) = plStep e (plS e (l.take j)) x := by
  unfold plS
  rw [List.take_add_one, hx, List.foldl_append]
  rfl
theorem plS_len (e : EvR) (l : List EvR) : (plS e l).1.length ≤ l.length + 1 ∧ ((plS e l).2 = false → (plS e l).1.length = l.length) := by
  unfold plS
  have h : ∀ (l : List EvR) (r : List EvR × Bool), (l.foldl (plStep e) r).1.length ≤ r.1.length + l.length + (if r.2 = true then 0 else 1) ∧ ((l.foldl (plStep e) r).2 = false → (l.foldl (plStep e) r).1.length = r.1.length + l.length) := by
    intro l
    induction l with
    | nil => intro r; exact ⟨by simp, fun _ => by simp⟩
    | cons x l ih =>
      intro r
      have h1 := ih (plStep e r x)
      rw [List.foldl_cons]
      have h2 : ∀ l : List EvR, ∀ r : List EvR × Bool, r.2 = true → (l.foldl (plStep e) r).2 = true := by
        intro l
        induction l with
        | nil => intro r h; exact h
        | cons y l ih => intro r h; exact ih _ (by unfold plStep; split <;> simp_all)
      by_cases hc : r.2 = false ∧ e.at_ < x.at_
      · have e1 : plStep e r x = (r.1 ++ [e] ++ [x], true) := if_pos hc
        rw [e1] at h1 ⊢
        obtain ⟨h3, h4⟩ := h1
        refine ⟨?_, fun hf => absurd hf ?_⟩
        · simp [hc.1] at h3 ⊢; omega
        · rw [h2 l (r.1 ++ [e] ++ [x], true) rfl]; decide
      · have e1 : plStep e r x = (r.1 ++ [x], r.2) := if_neg hc
        rw [e1] at h1 ⊢
        obtain ⟨h3, h4⟩ := h1
        refine ⟨?_, fun hf => ?_⟩
        · simp at h3 ⊢; omega
        · have := h4 hf; simp at this ⊢; omega
  obtain ⟨h1, h2⟩ := h l ([], false)
  exact ⟨by simpa [Nat.add_comm] using h1, fun hf => by simpa using h2 hf⟩
theorem RdE.mono {T : TypeId} {lo lo' : Nat} {w : World} {v : Value} {es : List EvR} (h : RdE T lo w v es) (hl : lo' ≤ lo) : RdE T lo' w v es := by
  obtain ⟨h0, a, cap, h1, h2, h3, h4, h5⟩ := h
  exact ⟨h0, a, cap, h1, h2, h3, fun g hg => ⟨Nat.le_trans hl (h4 g hg).1, (h4 g hg).2⟩, h5⟩
set_option maxRecDepth 100000 in
set_option maxHeartbeats 4000000 in
theorem g8pl_a {lo : Nat} {w : World} {es : List EvR} {e : EvR} (d : R7d) (az : Option Addr) (nz cz : Nat) (ac : Option Addr) (cc : Nat) (ah : Option Addr) (nh ch : Nat) (hc : RdE 83 lo w (.slice ac es.length cc) es) (he : EvOk e) (hlo : lo ≤ w.heap.size) (h1 : e.at_ < 0) : Calls Try.prog 39 #[.agg (d8A d (.slice az nz cz) (.slice ac es.length cc) (.slice ah nh ch)), .agg (evA e)] w fun en w' => ∃ vc', en = .returned (.tuple #[.agg (d8A d (.slice az nz cz) vc' (.slice ah nh ch)), .int .i64 (plE e es)]) ∧ RdE 83 lo w' vc' (plL e es) ∧ Below w.heap.size w w' := by
  obtain ⟨a9, cc9, hv, q1, q2⟩ := hc.slice
  obtain ⟨-, rfl⟩ : ac = a9 ∧ cc = cc9 := by simpa using hv
  have hE : plE e es = 10 := by unfold plE; rw [if_pos (.inl h1)]
  have hL : plL e es = es := by unfold plL; rw [if_neg (by rw [hE]; decide)]
  rw [hE, hL]
  clear hE hL hv
  have da : decide (e.at_ < 0) = true := decide_eq_true (by omega)
  have HS : Hid (Trio7 30 83 30 w (d8A d (.slice az nz cz) (.slice ac es.length cc) (.slice ah nh ch)) (evA e) d8Z (((w.alloc (Obj.cells (d8A d (.slice az nz cz) (.slice ac es.length cc) (.slice ah nh ch)) 30)).alloc (Obj.cells (evA e) 83)).alloc (Obj.cells #[.slice none 0 0, .int .i64 0, .int .i64 0, .int .i64 0, .bool false, .slice none 0 0, .slice none 0 0] 30))) := Lib.hid Trio7.start
  have HC := Lib.hid hc
  have He := Lib.hid he
  have Hlo := Lib.hid hlo
  clear hc he hlo
  go_enter Try.func39, Try.ntmps39
  go_upto_region 1 with fail
  generalize (((w.alloc (Obj.cells (d8A d (.slice az nz cz) (.slice ac es.length cc) (.slice ah nh ch)) 30)).alloc (Obj.cells (evA e) 83)).alloc (Obj.cells #[.slice none 0 0, .int .i64 0, .int .i64 0, .int .i64 0, .bool false, .slice none 0 0, .slice none 0 0] 30)) = w0 at *
  have k0 := (HS.out.y.cell 0).trans (evA_at0 e)
  have k1 := (HS.out.y.cell 1).trans (evA_at1 e)
  have k5 := (HS.out.x.cell 5).trans (show (d8A d (.slice az nz cz) (.slice ac es.length cc) (.slice ah nh ch))[5]? = some (.slice ac es.length cc) from rfl)
  go_wp2_with (first | (refine wpl_load rfl _ rfl (w.heap.size) rfl _ _ _ (HS.out.x) Try.underlying30 rfl Try.info8D ?_; go_frame) | (refine wpl_store rfl _ _ rfl (w.heap.size + 2) (d8A d (.slice az nz cz) (.slice ac es.length cc) (.slice ah nh ch)) rfl rfl _ _ HS.out.g Try.info8D rfl (d8A_one _ _ _ _ _ _ _ _ _ _) ?_; intro w9 hSg hKg; have HSg := Lib.hid hSg; have HKg := Lib.hid hKg; clear hSg hKg; go_frame))
  have HF := Lib.hid (HS.out.out HSg.out HKg.out)
  exact bodyPost_ret (v := .tuple #[.agg (d8A d (.slice az nz cz) (.slice ac es.length cc) (.slice ah nh ch)), .int .i64 10]) (results_cell_slot Try.results39 _ _ (w.heap.size + 2) 30 _ _ _ rfl rfl HF.out.g Try.underlying30 rfl Try.info8D) rfl ⟨_, rfl, HC.out.below HF.out.b, HF.out.b⟩
set_option maxRecDepth 100000 in
set_option maxHeartbeats 4000000 in
theorem g8pl_b {lo : Nat} {w : World} {es : List EvR} {e : EvR} (d : R7d) (az : Option Addr) (nz cz : Nat) (ac : Option Addr) (cc : Nat) (ah : Option Addr) (nh ch : Nat) (hc : RdE 83 lo w (.slice ac es.length cc) es) (he : EvOk e) (hlo : lo ≤ w.heap.size) (h1 : 0 ≤ e.at_) (h2 : e.kind < 1) : Calls Try.prog 39 #[.agg (d8A d (.slice az nz cz) (.slice ac es.length cc) (.slice ah nh ch)), .agg (evA e)] w fun en w' => ∃ vc', en = .returned (.tuple #[.agg (d8A d (.slice az nz cz) vc' (.slice ah nh ch)), .int .i64 (plE e es)]) ∧ RdE 83 lo w' vc' (plL e es) ∧ Below w.heap.size w w' := by
  obtain ⟨a9, cc9, hv, q1, q2⟩ := hc.slice
  obtain ⟨-, rfl⟩ : ac = a9 ∧ cc = cc9 := by simpa using hv
  have hE : plE e es = 10 := by unfold plE; rw [if_pos (.inr (.inl h2))]
  have hL : plL e es = es := by unfold plL; rw [if_neg (by rw [hE]; decide)]
  rw [hE, hL]
  clear hE hL hv
  have da : decide (e.at_ < 0) = false := decide_eq_false (by omega)
  have db : decide (e.kind < 1) = true := decide_eq_true (by omega)
  have HS : Hid (Trio7 30 83 30 w (d8A d (.slice az nz cz) (.slice ac es.length cc) (.slice ah nh ch)) (evA e) d8Z (((w.alloc (Obj.cells (d8A d (.slice az nz cz) (.slice ac es.length cc) (.slice ah nh ch)) 30)).alloc (Obj.cells (evA e) 83)).alloc (Obj.cells #[.slice none 0 0, .int .i64 0, .int .i64 0, .int .i64 0, .bool false, .slice none 0 0, .slice none 0 0] 30))) := Lib.hid Trio7.start
  have HC := Lib.hid hc
  have He := Lib.hid he
  have Hlo := Lib.hid hlo
  clear hc he hlo
  go_enter Try.func39, Try.ntmps39
  go_upto_region 1 with fail
  generalize (((w.alloc (Obj.cells (d8A d (.slice az nz cz) (.slice ac es.length cc) (.slice ah nh ch)) 30)).alloc (Obj.cells (evA e) 83)).alloc (Obj.cells #[.slice none 0 0, .int .i64 0, .int .i64 0, .int .i64 0, .bool false, .slice none 0 0, .slice none 0 0] 30)) = w0 at *
  have k0 := (HS.out.y.cell 0).trans (evA_at0 e)
  have k1 := (HS.out.y.cell 1).trans (evA_at1 e)
  have k5 := (HS.out.x.cell 5).trans (show (d8A d (.slice az nz cz) (.slice ac es.length cc) (.slice ah nh ch))[5]? = some (.slice ac es.length cc) from rfl)
  go_wp2_with (first | (refine wpl_load rfl _ rfl (w.heap.size) rfl _ _ _ (HS.out.x) Try.underlying30 rfl Try.info8D ?_; go_frame) | (refine wpl_store rfl _ _ rfl (w.heap.size + 2) (d8A d (.slice az nz cz) (.slice ac es.length cc) (.slice ah nh ch)) rfl rfl _ _ HS.out.g Try.info8D rfl (d8A_one _ _ _ _ _ _ _ _ _ _) ?_; intro w9 hSg hKg; have HSg := Lib.hid hSg; have HKg := Lib.hid hKg; clear hSg hKg; go_frame))
  have HF := Lib.hid (HS.out.out HSg.out HKg.out)
  exact bodyPost_ret (v := .tuple #[.agg (d8A d (.slice az nz cz) (.slice ac es.length cc) (.slice ah nh ch)), .int .i64 10]) (results_cell_slot Try.results39 _ _ (w.heap.size + 2) 30 _ _ _ rfl rfl HF.out.g Try.underlying30 rfl Try.info8D) rfl ⟨_, rfl, HC.out.below HF.out.b, HF.out.b⟩
set_option maxRecDepth 100000 in
set_option maxHeartbeats 4000000 in
theorem g8pl_c {lo : Nat} {w : World} {es : List EvR} {e : EvR} (d : R7d) (az : Option Addr) (nz cz : Nat) (ac : Option Addr) (cc : Nat) (ah : Option Addr) (nh ch : Nat) (hc : RdE 83 lo w (.slice ac es.length cc) es) (he : EvOk e) (hlo : lo ≤ w.heap.size) (h1 : 0 ≤ e.at_) (h2 : 1 ≤ e.kind) (h3 : 4 < e.kind) : Calls Try.prog 39 #[.agg (d8A d (.slice az nz cz) (.slice ac es.length cc) (.slice ah nh ch)), .agg (evA e)] w fun en w' => ∃ vc', en = .returned (.tuple #[.agg (d8A d (.slice az nz cz) vc' (.slice ah nh ch)), .int .i64 (plE e es)]) ∧ RdE 83 lo w' vc' (plL e es) ∧ Below w.heap.size w w' := by
  obtain ⟨a9, cc9, hv, q1, q2⟩ := hc.slice
  obtain ⟨-, rfl⟩ : ac = a9 ∧ cc = cc9 := by simpa using hv
  have hE : plE e es = 10 := by unfold plE; rw [if_pos (.inr (.inr h3))]
  have hL : plL e es = es := by unfold plL; rw [if_neg (by rw [hE]; decide)]
  rw [hE, hL]
  clear hE hL hv
  have da : decide (e.at_ < 0) = false := decide_eq_false (by omega)
  have db : decide (e.kind < 1) = false := decide_eq_false (by omega)
  have dc : decide (4 < e.kind) = true := decide_eq_true (by omega)
  have HS : Hid (Trio7 30 83 30 w (d8A d (.slice az nz cz) (.slice ac es.length cc) (.slice ah nh ch)) (evA e) d8Z (((w.alloc (Obj.cells (d8A d (.slice az nz cz) (.slice ac es.length cc) (.slice ah nh ch)) 30)).alloc (Obj.cells (evA e) 83)).alloc (Obj.cells #[.slice none 0 0, .int .i64 0, .int .i64 0, .int .i64 0, .bool false, .slice none 0 0, .slice none 0 0] 30))) := Lib.hid Trio7.start
  have HC := Lib.hid hc
  have He := Lib.hid he
  have Hlo := Lib.hid hlo
  clear hc he hlo
  go_enter Try.func39, Try.ntmps39
  go_upto_region 1 with fail
  generalize (((w.alloc (Obj.cells (d8A d (.slice az nz cz) (.slice ac es.length cc) (.slice ah nh ch)) 30)).alloc (Obj.cells (evA e) 83)).alloc (Obj.cells #[.slice none 0 0, .int .i64 0, .int .i64 0, .int .i64 0, .bool false, .slice none 0 0, .slice none 0 0] 30)) = w0 at *
  have k0 := (HS.out.y.cell 0).trans (evA_at0 e)
  have k1 := (HS.out.y.cell 1).trans (evA_at1 e)
  have k5 := (HS.out.x.cell 5).trans (show (d8A d (.slice az nz cz) (.slice ac es.length cc) (.slice ah nh ch))[5]? = some (.slice ac es.length cc) from rfl)
  go_wp2_with (first | (refine wpl_load rfl _ rfl (w.heap.size) rfl _ _ _ (HS.out.x) Try.underlying30 rfl Try.info8D ?_; go_frame) | (refine wpl_store rfl _ _ rfl (w.heap.size + 2) (d8A d (.slice az nz cz) (.slice ac es.length cc) (.slice ah nh ch)) rfl rfl _ _ HS.out.g Try.info8D rfl (d8A_one _ _ _ _ _ _ _ _ _ _) ?_; intro w9 hSg hKg; have HSg := Lib.hid hSg; have HKg := Lib.hid hKg; clear hSg hKg; go_frame))
  have HF := Lib.hid (HS.out.out HSg.out HKg.out)
  exact bodyPost_ret (v := .tuple #[.agg (d8A d (.slice az nz cz) (.slice ac es.length cc) (.slice ah nh ch)), .int .i64 10]) (results_cell_slot Try.results39 _ _ (w.heap.size + 2) 30 _ _ _ rfl rfl HF.out.g Try.underlying30 rfl Try.info8D) rfl ⟨_, rfl, HC.out.below HF.out.b, HF.out.b⟩
set_option maxRecDepth 100000 in
set_option maxHeartbeats 4000000 in
theorem g8pl_d {lo : Nat} {w : World} {es : List EvR} {e : EvR} (d : R7d) (az : Option Addr) (nz cz : Nat) (ac : Option Addr) (cc : Nat) (ah : Option Addr) (nh ch : Nat) (hc : RdE 83 lo w (.slice ac es.length cc) es) (he : EvOk e) (hlo : lo ≤ w.heap.size) (h1 : 0 ≤ e.at_) (h2 : 1 ≤ e.kind) (h3 : e.kind ≤ 4) (h4 : 256 ≤ es.length) : Calls Try.prog 39 #[.agg (d8A d (.slice az nz cz) (.slice ac es.length cc) (.slice ah nh ch)), .agg (evA e)] w fun en w' => ∃ vc', en = .returned (.tuple #[.agg (d8A d (.slice az nz cz) vc' (.slice ah nh ch)), .int .i64 (plE e es)]) ∧ RdE 83 lo w' vc' (plL e es) ∧ Below w.heap.size w w' := by
  obtain ⟨a9, cc9, hv, q1, q2⟩ := hc.slice
  obtain ⟨-, rfl⟩ : ac = a9 ∧ cc = cc9 := by simpa using hv
  have hE : plE e es = 17 := by unfold plE; rw [if_neg (by omega), if_pos h4]
  have hL : plL e es = es := by unfold plL; rw [if_neg (by rw [hE]; decide)]
  rw [hE, hL]
  clear hE hL hv
  have da : decide (e.at_ < 0) = false := decide_eq_false (by omega)
  have db : decide (e.kind < 1) = false := decide_eq_false (by omega)
  have dc : decide (4 < e.kind) = false := decide_eq_false (by omega)
  have dn : decide ((256 : Int) ≤ (es.length : Nat)) = true := decide_eq_true (by omega)
  have HS : Hid (Trio7 30 83 30 w (d8A d (.slice az nz cz) (.slice ac es.length cc) (.slice ah nh ch)) (evA e) d8Z (((w.alloc (Obj.cells (d8A d (.slice az nz cz) (.slice ac es.length cc) (.slice ah nh ch)) 30)).alloc (Obj.cells (evA e) 83)).alloc (Obj.cells #[.slice none 0 0, .int .i64 0, .int .i64 0, .int .i64 0, .bool false, .slice none 0 0, .slice none 0 0] 30))) := Lib.hid Trio7.start
  have HC := Lib.hid hc
  have He := Lib.hid he
  have Hlo := Lib.hid hlo
  clear hc he hlo
  go_enter Try.func39, Try.ntmps39
  go_upto_region 1 with fail
  generalize (((w.alloc (Obj.cells (d8A d (.slice az nz cz) (.slice ac es.length cc) (.slice ah nh ch)) 30)).alloc (Obj.cells (evA e) 83)).alloc (Obj.cells #[.slice none 0 0, .int .i64 0, .int .i64 0, .int .i64 0, .bool false, .slice none 0 0, .slice none 0 0] 30)) = w0 at *
  have k0 := (HS.out.y.cell 0).trans (evA_at0 e)
  have k1 := (HS.out.y.cell 1).trans (evA_at1 e)
  have k5 := (HS.out.x.cell 5).trans (show (d8A d (.slice az nz cz) (.slice ac es.length cc) (.slice ah nh ch))[5]? = some (.slice ac es.length cc) from rfl)
  go_wp2_with (first | (refine wpl_load rfl _ rfl (w.heap.size) rfl _ _ _ (HS.out.x) Try.underlying30 rfl Try.info8D ?_; go_frame) | (refine wpl_store rfl _ _ rfl (w.heap.size + 2) (d8A d (.slice az nz cz) (.slice ac es.length cc) (.slice ah nh ch)) rfl rfl _ _ HS.out.g Try.info8D rfl (d8A_one _ _ _ _ _ _ _ _ _ _) ?_; intro w9 hSg hKg; have HSg := Lib.hid hSg; have HKg := Lib.hid hKg; clear hSg hKg; go_frame))
  have HF := Lib.hid (HS.out.out HSg.out HKg.out)
  exact bodyPost_ret (v := .tuple #[.agg (d8A d (.slice az nz cz) (.slice ac es.length cc) (.slice ah nh ch)), .int .i64 17]) (results_cell_slot Try.results39 _ _ (w.heap.size + 2) 30 _ _ _ rfl rfl HF.out.g Try.underlying30 rfl Try.info8D) rfl ⟨_, rfl, HC.out.below HF.out.b, HF.out.b⟩
set_option maxRecDepth 100000 in
set_option maxHeartbeats 4000000 in
theorem g8pl_m {lo : Nat} {w : World} {es : List EvR} {e : EvR} (d : R7d) (az : Option Addr) (nz cz : Nat) (ac : Option Addr) (cc : Nat) (ah : Option Addr) (nh ch : Nat) (hc : RdE 83 lo w (.slice ac es.length cc) es) (he : EvOk e) (hlo : lo ≤ w.heap.size) (h1 : 0 ≤ e.at_) (h2 : 1 ≤ e.kind) (h3 : e.kind ≤ 4) (h4 : es.length < 256) : Calls Try.prog 39 #[.agg (d8A d (.slice az nz cz) (.slice ac es.length cc) (.slice ah nh ch)), .agg (evA e)] w fun en w' => ∃ vc', en = .returned (.tuple #[.agg (d8A d (.slice az nz cz) vc' (.slice ah nh ch)), .int .i64 (plE e es)]) ∧ RdE 83 lo w' vc' (plL e es) ∧ Below w.heap.size w w' := by
  obtain ⟨a9, cc9, hv, q1, q2⟩ := hc.slice
  obtain ⟨-, rfl⟩ : ac = a9 ∧ cc = cc9 := by simpa using hv
  have hE : plE e es = 0 := by unfold plE; rw [if_neg (by omega), if_neg (by omega)]
  have hL : plL e es = plI e es := by unfold plL; rw [if_pos hE]
  rw [hE, hL]
  clear hE hL hv
  have da : decide (e.at_ < 0) = false := decide_eq_false (by omega)
  have db : decide (e.kind < 1) = false := decide_eq_false (by omega)
  have dc : decide (4 < e.kind) = false := decide_eq_false (by omega)
  have dn : decide ((256 : Int) ≤ (es.length : Nat)) = false := decide_eq_false (by omega)
  have HS : Hid (Trio7 30 83 30 w (d8A d (.slice az nz cz) (.slice ac es.length cc) (.slice ah nh ch)) (evA e) d8Z (((w.alloc (Obj.cells (d8A d (.slice az nz cz) (.slice ac es.length cc) (.slice ah nh ch)) 30)).alloc (Obj.cells (evA e) 83)).alloc (Obj.cells #[.slice none 0 0, .int .i64 0, .int .i64 0, .int .i64 0, .bool false, .slice none 0 0, .slice none 0 0] 30))) := Lib.hid Trio7.start
  have HC := Lib.hid hc
  have He := Lib.hid he
  have Hlo := Lib.hid hlo
  clear hc he hlo
  go_enter Try.func39, Try.ntmps39
  go_upto_region 1 with fail
  generalize (((w.alloc (Obj.cells (d8A d (.slice az nz cz) (.slice ac es.length cc) (.slice ah nh ch)) 30)).alloc (Obj.cells (evA e) 83)).alloc (Obj.cells #[.slice none 0 0, .int .i64 0, .int .i64 0, .int .i64 0, .bool false, .slice none 0 0, .slice none 0 0] 30)) = w0 at *
  have k0 := (HS.out.y.cell 0).trans (evA_at0 e)
  have k1 := (HS.out.y.cell 1).trans (evA_at1 e)
  have k5 := (HS.out.x.cell 5).trans (show (d8A d (.slice az nz cz) (.slice ac es.length cc) (.slice ah nh ch))[5]? = some (.slice ac es.length cc) from rfl)
  go_wp2_with fail
  go_loopw [6, 7, 8] (fun vo vd vi wr => ∃ (j : Nat) (acc : List EvR) (dn : Bool), j ≤ es.length ∧ vi = .int .i64 (j : Nat) ∧ vd = .bool dn ∧ plS e (es.take j) = (acc, dn) ∧ Trio7 30 83 30 w (d8A d (.slice az nz cz) (.slice ac es.length cc) (.slice ah nh ch)) (evA e) d8Z wr ∧ RowE 83 (w.heap.size + 3) wr vo acc) (fun _ _ vi _ => es.length - (intOf vi).toNat)
  case atStart => exact ⟨0, [], false, Nat.zero_le _, rfl, rfl, rfl, HS.out, RowE.nil _ _ _⟩
  case round =>
    obtain ⟨j, acc, dn, hj, rfl, rfl, hpl, hT, hR⟩ := hrel
    obtain ⟨ao, co, rfl⟩ := own_slice hR.own
    have HT := Lib.hid hT
    have HR := Lib.hid hR
    have HCr := Lib.hid (HC.out.below hT.b)
    have hal := (plS_len e (es.take j)).1
    rw [hpl, List.length_take, Nat.min_eq_left hj] at hal
    have Hal : Hid (acc.length ≤ 1000) := Lib.hid (by have h5 : acc.length ≤ j + 1 := hal; omega)
    have Hpl := Lib.hid hpl
    clear hT hR hpl hal HS k0 k1 k5 da db dc
    by_cases hlt : j < es.length
    · obtain ⟨x, hx⟩ : ∃ x, es[j]? = some x := ⟨_, List.getElem?_eq_getElem hlt⟩
      obtain ⟨g, off, cap', hv, hrng, hxok⟩ := HCr.out.at_ hx
      obtain ⟨rfl, -⟩ : ac = some ⟨g, off, none⟩ ∧ cc = cap' := by simpa using hv
      have Hx := Lib.hid hxok
      have Hst1 := Lib.hid (plS_step (e := e) hx)
      have Hrow : Hid (∀ W, Below w.heap.size w W → W.rangeAt g (off + j * 68) (evL x)) := Lib.hid (fun W hb => by
        obtain ⟨g', off', cap2, hv2, hr2, _⟩ := (HC.out.below hb).at_ hx
        obtain ⟨⟨rfl, rfl⟩, -⟩ : (g = g' ∧ off = off') ∧ cc = cap2 := by simpa using hv2
        exact hr2)
      have Hcx : Hid (∀ w', Below wr.heap.size wr w' → w'.cell? ⟨g, off + j * 68, none⟩ = some (.int .i64 x.at_)) := Lib.hid (fun w' hw' => by
        have h6 := Hrow.out w' (HT.out.b.trans (hw'.mono HT.out.b.size)) 0 _ (evL_at0 x)
        rwa [Nat.add_zero] at h6)
      have HX : Hid (Blk wr w.heap.size 30 (d8A d (.slice az nz cz) (.slice (some ⟨g, off, none⟩) es.length cc) (.slice ah nh ch))) := Lib.hid HT.out.x
      have HY : Hid (Blk wr (w.heap.size + 1) 83 (evA e)) := Lib.hid HT.out.y
      have c5 := (HT.out.x.cell 5).trans (show (d8A d (.slice az nz cz) (.slice (some ⟨g, off, none⟩) es.length cc) (.slice ah nh ch))[5]? = some (.slice (some ⟨g, off, none⟩) es.length cc) from rfl)
      have c0 := (HT.out.y.cell 0).trans (evA_at0 e)
      clear hx hv hrng hxok HCr
      cases dn with
      | true =>
        have Hst : Hid (plS e (es.take (j + 1)) = (acc ++ [x], true)) := Lib.hid (by rw [Hst1.out, Hpl.out]; unfold plStep; rw [if_neg (by simp)])
        clear Hst1 Hpl c0
        go_upto_region 10 with fail
        refine wp_region_held (S := fun w' => Below wr.heap.size wr w') (by kernel_rfl) ?_
        change wpAnyH _ _ _ _ _ _ _ _ (World.drew _)
        have hS : Below wr.heap.size wr wr.drew := (Below.refl _ _).drew
        refine takeH hS (i := 0) (d := 35) (v := .bool true) rfl rfl (by kernel_rfl) (by kernel_rfl) (by kernel_rfl) (fun _ _ _ h => h) (Or.inl ⟨by kernel_rfl, fun w' hw' => by kernel_rfl⟩) ?_
        refine takeH hS (i := 1) (d := 36) (v := .bool false) rfl rfl (by kernel_rfl) (by kernel_rfl) (by kernel_rfl) (fun _ _ _ h => h) (Or.inl ⟨by kernel_rfl, fun w' hw' => by kernel_rfl⟩) ?_
        refine takeH hS (i := 2) (d := 37) (v := .bool false) rfl rfl (by kernel_rfl) (by kernel_rfl) (by kernel_rfl) (fun _ _ _ h => h) (Or.inl ⟨by kernel_rfl, fun w' hw' => by kernel_rfl⟩) ?_
        refine takeH hS (i := 3) (d := 38) (v := undef) rfl rfl (by kernel_rfl) (by kernel_rfl) (by kernel_rfl) (fun _ _ _ h => h) (Or.inr ⟨by kernel_rfl, rfl⟩) ?_
        try go_frame
        refine takeH hS (i := 4) (d := 39) (v := undef) rfl rfl (by kernel_rfl) (by kernel_rfl) (by kernel_rfl) (fun _ _ _ h => h) (Or.inr ⟨by kernel_rfl, rfl⟩) ?_
        refine takeH hS (i := 5) (d := 40) (v := undef) rfl rfl (by kernel_rfl) (by kernel_rfl) (by kernel_rfl) (fun _ _ _ h => h) (Or.inr ⟨by kernel_rfl, rfl⟩) ?_
        refine takeH hS (i := 6) (d := 41) (v := undef) rfl rfl (by kernel_rfl) (by kernel_rfl) (by kernel_rfl) (fun _ _ _ h => h) (Or.inr ⟨by kernel_rfl, rfl⟩) ?_
        refine takeH hS (i := 7) (d := 42) (v := undef) rfl rfl (by kernel_rfl) (by kernel_rfl) (by kernel_rfl) (fun _ _ _ h => h) (Or.inr ⟨by kernel_rfl, rfl⟩) ?_
        try go_frame
        refine takeH hS (i := 8) (d := 43) (v := undef) rfl rfl (by kernel_rfl) (by kernel_rfl) (by kernel_rfl) (fun _ _ _ h => h) (Or.inr ⟨by kernel_rfl, rfl⟩) ?_
        refine takeH hS (i := 9) (d := 44) (v := undef) rfl rfl (by kernel_rfl) (by kernel_rfl) (by kernel_rfl) (fun _ _ _ h => h) (Or.inr ⟨by kernel_rfl, rfl⟩) ?_
        refine takeH hS (i := 10) (d := 45) (v := undef) rfl rfl (by kernel_rfl) (by kernel_rfl) (by kernel_rfl) (fun _ _ _ h => h) (Or.inr ⟨by kernel_rfl, rfl⟩) ?_
        refine takeH hS (i := 11) (d := 46) (v := undef) rfl rfl (by kernel_rfl) (by kernel_rfl) (by kernel_rfl) (fun _ _ _ h => h) (Or.inr ⟨by kernel_rfl, rfl⟩) ?_
        try go_frame
        refine takeH hS (i := 12) (d := 47) (v := .bool false) rfl rfl (by kernel_rfl) (by kernel_rfl) (by kernel_rfl) (fun _ _ _ h => h) (Or.inl ⟨by kernel_rfl, fun w' hw' => by kernel_rfl⟩) ?_
        refine wpAnyH_done (by kernel_rfl) ?_ _
        try go_frame
        have HT1 := Lib.hid (HT.out.below hS)
        have HR1 := Lib.hid (HR.out.below hS)
        clear hS HT HR HX HY Hcx c5
        generalize wr.drew = w1 at *
        have c5 := (HT1.out.x.cell 5).trans (show (d8A d (.slice az nz cz) (.slice (some ⟨g, off, none⟩) es.length cc) (.slice ah nh ch))[5]? = some (.slice (some ⟨g, off, none⟩) es.length cc) from rfl)
        have Hrx := Lib.hid (Hrow.out w1 HT1.out.b)
        go_wp2_with (first | (refine wpl_load_ev (by rfl) _ _ rfl g (off + j * 68) rfl x _ Hrx.out Try.underlying83 rfl (info_e8L Hx.out.len) ?_; go_frame) | (refine wpl_buildK elE8 (by decide) rfl _ rfl (evA x) rfl (evA_size Hx.out.len) ?_; go_frame) | (refine wpl_appendE elE8 rfl _ _ rfl (w.heap.size + 3) (.slice ao acc.length co) acc rfl (HR1.out.below (below_alloc w1 (Obj.cells (evA x) 83))) w1.heap.size x rfl (Blk.new w1 83 (evA x)) Hx.out (by have := Hal.out; omega) (by have := HT1.out.g.lt; have := (below_alloc w1 (Obj.cells (evA x) 83)).size; omega) ?_; intro an cn w4 hrow hgr; have HT4 := Lib.hid ((HT1.out.below (below_alloc w1 (Obj.cells (evA x) 83))).grown hgr (fun G0 hg => by have := own_lov HR1.out.own hg; omega)); have HR4 := Lib.hid hrow; clear hrow hgr; go_frame))
        go_roundw
        case rel => exact ⟨j + 1, _, true, by omega, by go_num, rfl, Hst.out, HT4.out, HR4.out⟩
        case measure => simp [intOf]; omega
      | false =>
        by_cases hg : e.at_ < x.at_
        · have dg : decide (x.at_ > e.at_) = true := decide_eq_true hg
          have Hst : Hid (plS e (es.take (j + 1)) = (acc ++ [e] ++ [x], true)) := Lib.hid (by rw [Hst1.out, Hpl.out]; unfold plStep; rw [if_pos ⟨rfl, hg⟩])
          clear Hst1 Hpl c0 hg
          go_upto_region 10 with fail
          refine wp_region_held (S := fun w' => Below wr.heap.size wr w') (by kernel_rfl) ?_
          change wpAnyH _ _ _ _ _ _ _ _ (World.drew _)
          have hS : Below wr.heap.size wr wr.drew := (Below.refl _ _).drew
          refine takeH hS (i := 0) (d := 35) (v := .bool false) rfl rfl (by kernel_rfl) (by kernel_rfl) (by kernel_rfl) (fun _ _ _ h => h) (Or.inl ⟨by kernel_rfl, fun w' hw' => by kernel_rfl⟩) ?_
          refine takeH hS (i := 1) (d := 36) (v := .bool true) rfl rfl (by kernel_rfl) (by kernel_rfl) (by kernel_rfl) (fun _ _ _ h => h) (Or.inl ⟨by kernel_rfl, fun w' hw' => by kernel_rfl⟩) ?_
          refine takeH hS (i := 2) (d := 37) (v := .bool true) rfl rfl (by kernel_rfl) (by kernel_rfl) (by kernel_rfl) (fun _ _ _ h => h) (Or.inl ⟨by kernel_rfl, fun w' hw' => by kernel_rfl⟩) ?_
          refine takeH hS (i := 3) (d := 38) (v := .pointer (some ⟨w.heap.size, 5, none⟩)) rfl rfl (by kernel_rfl) (by kernel_rfl) (by kernel_rfl) (fun _ _ _ h => h) (Or.inl ⟨by kernel_rfl, fun w' hw' => by kernel_rfl⟩) ?_
          try go_frame
          refine takeH hS (i := 4) (d := 39) (v := .slice (some ⟨g, off, none⟩) (es.length) (cc)) rfl rfl (by kernel_rfl) (by kernel_rfl) (by kernel_rfl) (fun _ _ _ h => h) (Or.inl ⟨by kernel_rfl, fun w' hw' => by exact exec_cellv _ rfl ⟨w.heap.size, 5, none⟩ rfl (.slice (some ⟨g, off, none⟩) (es.length) (cc)) Try.underlying28 rfl (((HX.out.below hw' HX.out.lt).cell 5).trans (rfl))⟩) ?_
          refine takeH hS (i := 5) (d := 40) (v := .int .i64 ((j : Nat))) rfl rfl (by kernel_rfl) (by kernel_rfl) (by kernel_rfl) (fun _ _ _ h => h) (Or.inl ⟨by kernel_rfl, fun w' hw' => by kernel_rfl⟩) ?_
          refine takeH hS (i := 6) (d := 41) (v := .pointer (some ⟨g, off + j * 68, none⟩)) rfl rfl (by kernel_rfl) (by kernel_rfl) (by kernel_rfl) (fun _ _ _ h => h) (Or.inl ⟨by kernel_rfl, fun w' hw' => by exact exec_indexO elE8 _ _ rfl g off es.length cc j rfl rfl hlt⟩) ?_
          refine takeH hS (i := 7) (d := 42) (v := .pointer (some ⟨g, off + j * 68, none⟩)) rfl rfl (by kernel_rfl) (by kernel_rfl) (by kernel_rfl) (fun _ _ _ h => h) (Or.inl ⟨by kernel_rfl, fun w' hw' => by kernel_rfl⟩) ?_
          try go_frame
          refine takeH hS (i := 8) (d := 43) (v := .int .i64 (x.at_)) rfl rfl (by kernel_rfl) (by kernel_rfl) (by kernel_rfl) (fun _ _ _ h => h) (Or.inl ⟨by kernel_rfl, fun w' hw' => by exact exec_cell _ rfl ⟨g, off + j * 68, none⟩ rfl _ Try.underlying3 (Hcx.out w' hw')⟩) ?_
          refine takeH hS (i := 9) (d := 44) (v := .pointer (some ⟨(w.heap.size + 1), 0, none⟩)) rfl rfl (by kernel_rfl) (by kernel_rfl) (by kernel_rfl) (fun _ _ _ h => h) (Or.inl ⟨by kernel_rfl, fun w' hw' => by kernel_rfl⟩) ?_
          refine takeH hS (i := 10) (d := 45) (v := .int .i64 (e.at_)) rfl rfl (by kernel_rfl) (by kernel_rfl) (by kernel_rfl) (fun _ _ _ h => h) (Or.inl ⟨by kernel_rfl, fun w' hw' => by exact exec_cell _ rfl ⟨(w.heap.size + 1), 0, none⟩ rfl _ Try.underlying3 (((HY.out.below hw' HY.out.lt).cell 0).trans (evA_at0 e))⟩) ?_
          refine takeH hS (i := 11) (d := 46) (v := .bool true) rfl rfl (by kernel_rfl) (by kernel_rfl) (by kernel_rfl) (fun _ _ _ h => h) (Or.inl ⟨by kernel_rfl, fun w' hw' => by exact exec_gtr _ _ rfl (x.at_) (e.at_) rfl rfl true (dg) rfl⟩) ?_
          try go_frame
          refine takeH hS (i := 12) (d := 47) (v := .bool true) rfl rfl (by kernel_rfl) (by kernel_rfl) (by kernel_rfl) (fun _ _ _ h => h) (Or.inl ⟨by kernel_rfl, fun w' hw' => by kernel_rfl⟩) ?_
          refine wpAnyH_done (by kernel_rfl) ?_ _
          try go_frame
          have HT1 := Lib.hid (HT.out.below hS)
          have HR1 := Lib.hid (HR.out.below hS)
          clear hS HT HR HX HY Hcx c5
          generalize wr.drew = w1 at *
          go_upto_region 12 with (first | (refine wpl_load rfl _ rfl (w.heap.size + 1) rfl _ _ _ (HT1.out.y) Try.underlying83 rfl (info_e8A He.out.len) ?_; go_frame) | (refine wpl_buildK elE8 (by decide) rfl _ rfl (evA e) rfl (evA_size He.out.len) ?_; go_frame) | (refine wpl_appendE elE8 rfl _ _ rfl (w.heap.size + 3) (.slice ao acc.length co) acc rfl (HR1.out.below (below_alloc w1 (Obj.cells (evA e) 83))) w1.heap.size e rfl (Blk.new w1 83 (evA e)) He.out (by have := Hal.out; omega) (by have := HT1.out.g.lt; have := (below_alloc w1 (Obj.cells (evA e) 83)).size; omega) ?_; intro an cn w4 hrow hgr; have HT4 := Lib.hid ((HT1.out.below (below_alloc w1 (Obj.cells (evA e) 83))).grown hgr (fun G0 hg => by have := own_lov HR1.out.own hg; omega)); have HR4 := Lib.hid hrow; clear hrow hgr; go_frame))
          have Hal2 : Hid ((acc ++ [e]).length ≤ 1001) := Lib.hid (by have := Hal.out; rw [List.length_append]; simp; omega)
          have hln : acc.length + 1 = (acc ++ [e]).length := by simp
          rw [hln] at HR4 ⊢
          clear HT1 HR1 Hal hln
          obtain ⟨HT5, HR5, Hal, acc2, Hac2⟩ : Hid (Trio7 30 83 30 w (d8A d (.slice az nz cz) (.slice (some ⟨g, off, none⟩) es.length cc) (.slice ah nh ch)) (evA e) d8Z w4) ∧ Hid (RowE 83 (w.heap.size + 3) w4 (.slice an (acc ++ [e]).length cn) (acc ++ [e])) ∧ Hid ((acc ++ [e]).length ≤ 1001) ∧ ∃ acc2, acc ++ [e] = acc2 := ⟨HT4, HR4, Hal2, _, rfl⟩
          clear HT4 HR4 Hal2
          rw [Hac2] at HR5 Hal Hst ⊢
          clear Hac2
          generalize an = ao2 at *
          generalize cn = co2 at *
          go_upto_region 13 with fail
          have c5 := (HT5.out.x.cell 5).trans (show (d8A d (.slice az nz cz) (.slice (some ⟨g, off, none⟩) es.length cc) (.slice ah nh ch))[5]? = some (.slice (some ⟨g, off, none⟩) es.length cc) from rfl)
          have Hrx := Lib.hid (Hrow.out w4 HT5.out.b)
          go_wp2_with (first | (refine wpl_load_ev (by rfl) _ _ rfl g (off + j * 68) rfl x _ Hrx.out Try.underlying83 rfl (info_e8L Hx.out.len) ?_; go_frame) | (refine wpl_buildK elE8 (by decide) rfl _ rfl (evA x) rfl (evA_size Hx.out.len) ?_; go_frame) | (refine wpl_appendE elE8 rfl _ _ rfl (w.heap.size + 3) (.slice ao2 acc2.length co2) acc2 rfl (HR5.out.below (below_alloc w4 (Obj.cells (evA x) 83))) w4.heap.size x rfl (Blk.new w4 83 (evA x)) Hx.out (by have := Hal.out; omega) (by have := HT5.out.g.lt; have := (below_alloc w4 (Obj.cells (evA x) 83)).size; omega) ?_; intro an3 cn3 w6 hrow hgr; have HT4 := Lib.hid ((HT5.out.below (below_alloc w4 (Obj.cells (evA x) 83))).grown hgr (fun G0 hg => by have := own_lov HR5.out.own hg; omega)); have HR4 := Lib.hid hrow; clear hrow hgr; go_frame))
          go_roundw
          case rel => exact ⟨j + 1, _, true, by omega, by go_num, rfl, Hst.out, HT4.out, HR4.out⟩
          case measure => simp [intOf]; omega
        · have dg : decide (x.at_ > e.at_) = false := decide_eq_false hg
          have Hst : Hid (plS e (es.take (j + 1)) = (acc ++ [x], false)) := Lib.hid (by rw [Hst1.out, Hpl.out]; unfold plStep; rw [if_neg (fun h => hg h.2)])
          clear Hst1 Hpl c0 hg
          go_upto_region 10 with fail
          refine wp_region_held (S := fun w' => Below wr.heap.size wr w') (by kernel_rfl) ?_
          change wpAnyH _ _ _ _ _ _ _ _ (World.drew _)
          have hS : Below wr.heap.size wr wr.drew := (Below.refl _ _).drew
          refine takeH hS (i := 0) (d := 35) (v := .bool false) rfl rfl (by kernel_rfl) (by kernel_rfl) (by kernel_rfl) (fun _ _ _ h => h) (Or.inl ⟨by kernel_rfl, fun w' hw' => by kernel_rfl⟩) ?_
          refine takeH hS (i := 1) (d := 36) (v := .bool true) rfl rfl (by kernel_rfl) (by kernel_rfl) (by kernel_rfl) (fun _ _ _ h => h) (Or.inl ⟨by kernel_rfl, fun w' hw' => by kernel_rfl⟩) ?_
          refine takeH hS (i := 2) (d := 37) (v := .bool true) rfl rfl (by kernel_rfl) (by kernel_rfl) (by kernel_rfl) (fun _ _ _ h => h) (Or.inl ⟨by kernel_rfl, fun w' hw' => by kernel_rfl⟩) ?_
          refine takeH hS (i := 3) (d := 38) (v := .pointer (some ⟨w.heap.size, 5, none⟩)) rfl rfl (by kernel_rfl) (by kernel_rfl) (by kernel_rfl) (fun _ _ _ h => h) (Or.inl ⟨by kernel_rfl, fun w' hw' => by kernel_rfl⟩) ?_
          try go_frame
          refine takeH hS (i := 4) (d := 39) (v := .slice (some ⟨g, off, none⟩) (es.length) (cc)) rfl rfl (by kernel_rfl) (by kernel_rfl) (by kernel_rfl) (fun _ _ _ h => h) (Or.inl ⟨by kernel_rfl, fun w' hw' => by exact exec_cellv _ rfl ⟨w.heap.size, 5, none⟩ rfl (.slice (some ⟨g, off, none⟩) (es.length) (cc)) Try.underlying28 rfl (((HX.out.below hw' HX.out.lt).cell 5).trans (rfl))⟩) ?_
          refine takeH hS (i := 5) (d := 40) (v := .int .i64 ((j : Nat))) rfl rfl (by kernel_rfl) (by kernel_rfl) (by kernel_rfl) (fun _ _ _ h => h) (Or.inl ⟨by kernel_rfl, fun w' hw' => by kernel_rfl⟩) ?_
          refine takeH hS (i := 6) (d := 41) (v := .pointer (some ⟨g, off + j * 68, none⟩)) rfl rfl (by kernel_rfl) (by kernel_rfl) (by kernel_rfl) (fun _ _ _ h => h) (Or.inl ⟨by kernel_rfl, fun w' hw' => by exact exec_indexO elE8 _ _ rfl g off es.length cc j rfl rfl hlt⟩) ?_
          refine takeH hS (i := 7) (d := 42) (v := .pointer (some ⟨g, off + j * 68, none⟩)) rfl rfl (by kernel_rfl) (by kernel_rfl) (by kernel_rfl) (fun _ _ _ h => h) (Or.inl ⟨by kernel_rfl, fun w' hw' => by kernel_rfl⟩) ?_
          try go_frame
          refine takeH hS (i := 8) (d := 43) (v := .int .i64 (x.at_)) rfl rfl (by kernel_rfl) (by kernel_rfl) (by kernel_rfl) (fun _ _ _ h => h) (Or.inl ⟨by kernel_rfl, fun w' hw' => by exact exec_cell _ rfl ⟨g, off + j * 68, none⟩ rfl _ Try.underlying3 (Hcx.out w' hw')⟩) ?_
          refine takeH hS (i := 9) (d := 44) (v := .pointer (some ⟨(w.heap.size + 1), 0, none⟩)) rfl rfl (by kernel_rfl) (by kernel_rfl) (by kernel_rfl) (fun _ _ _ h => h) (Or.inl ⟨by kernel_rfl, fun w' hw' => by kernel_rfl⟩) ?_
          refine takeH hS (i := 10) (d := 45) (v := .int .i64 (e.at_)) rfl rfl (by kernel_rfl) (by kernel_rfl) (by kernel_rfl) (fun _ _ _ h => h) (Or.inl ⟨by kernel_rfl, fun w' hw' => by exact exec_cell _ rfl ⟨(w.heap.size + 1), 0, none⟩ rfl _ Try.underlying3 (((HY.out.below hw' HY.out.lt).cell 0).trans (evA_at0 e))⟩) ?_
          refine takeH hS (i := 11) (d := 46) (v := .bool false) rfl rfl (by kernel_rfl) (by kernel_rfl) (by kernel_rfl) (fun _ _ _ h => h) (Or.inl ⟨by kernel_rfl, fun w' hw' => by exact exec_gtr _ _ rfl (x.at_) (e.at_) rfl rfl false (dg) rfl⟩) ?_
          try go_frame
          refine takeH hS (i := 12) (d := 47) (v := .bool false) rfl rfl (by kernel_rfl) (by kernel_rfl) (by kernel_rfl) (fun _ _ _ h => h) (Or.inl ⟨by kernel_rfl, fun w' hw' => by kernel_rfl⟩) ?_
          refine wpAnyH_done (by kernel_rfl) ?_ _
          try go_frame
          have HT1 := Lib.hid (HT.out.below hS)
          have HR1 := Lib.hid (HR.out.below hS)
          clear hS HT HR HX HY Hcx c5
          generalize wr.drew = w1 at *
          have c5 := (HT1.out.x.cell 5).trans (show (d8A d (.slice az nz cz) (.slice (some ⟨g, off, none⟩) es.length cc) (.slice ah nh ch))[5]? = some (.slice (some ⟨g, off, none⟩) es.length cc) from rfl)
          have Hrx := Lib.hid (Hrow.out w1 HT1.out.b)
          go_wp2_with (first | (refine wpl_load_ev (by rfl) _ _ rfl g (off + j * 68) rfl x _ Hrx.out Try.underlying83 rfl (info_e8L Hx.out.len) ?_; go_frame) | (refine wpl_buildK elE8 (by decide) rfl _ rfl (evA x) rfl (evA_size Hx.out.len) ?_; go_frame) | (refine wpl_appendE elE8 rfl _ _ rfl (w.heap.size + 3) (.slice ao acc.length co) acc rfl (HR1.out.below (below_alloc w1 (Obj.cells (evA x) 83))) w1.heap.size x rfl (Blk.new w1 83 (evA x)) Hx.out (by have := Hal.out; omega) (by have := HT1.out.g.lt; have := (below_alloc w1 (Obj.cells (evA x) 83)).size; omega) ?_; intro an cn w4 hrow hgr; have HT4 := Lib.hid ((HT1.out.below (below_alloc w1 (Obj.cells (evA x) 83))).grown hgr (fun G0 hg => by have := own_lov HR1.out.own hg; omega)); have HR4 := Lib.hid hrow; clear hrow hgr; go_frame))
          go_roundw
          case rel => exact ⟨j + 1, _, false, by omega, by go_num, rfl, Hst.out, HT4.out, HR4.out⟩
          case measure => simp [intOf]; omega
    · have hje : j = es.length := by omega
      have hall : es.take j = es := List.take_of_length_le (by omega)
      have HPl : Hid (plS e es = (acc, dn)) := Lib.hid (by have h := Hpl.out; rwa [hall] at h)
      have c5 := (HT.out.x.cell 5).trans (show (d8A d (.slice az nz cz) (.slice ac es.length cc) (.slice ah nh ch))[5]? = some (.slice ac es.length cc) from rfl)
      have f5 := HT.out.x.frozen 5
      clear hje hall Hpl HCr
      cases dn with
      | true =>
        have HI : Hid (plI e es = acc) := Lib.hid (by unfold plI; rw [HPl.out]; rfl)
        clear HPl
        go_upto_region 17 with fail
        have HT2 : Hid (Trio7 30 83 30 w (d8A d (.slice az nz cz) (.slice ao acc.length co) (.slice ah nh ch)) (evA e) d8Z (wr.setCell ⟨w.heap.size, 5, none⟩ (.slice ao acc.length co))) := Lib.hid (HT.out.set 5 _)
        have HR2 := Lib.hid (HR.out.kept ((Kept.refl (· = w.heap.size) wr).setCell (p := ⟨w.heap.size, 5, none⟩) rfl (.slice ao acc.length co)) (fun G0 hg e9 => by have := own_lov HR.out.own hg; omega))
        clear c5 f5 HT HR
        generalize wr.setCell ⟨w.heap.size, 5, none⟩ (.slice ao acc.length co) = w2 at *
        go_wp2_with (first | (refine wpl_load rfl _ rfl (w.heap.size) rfl _ _ _ (HT2.out.x) Try.underlying30 rfl Try.info8D ?_; go_frame) | (refine wpl_store rfl _ _ rfl (w.heap.size + 2) (d8A d (.slice az nz cz) (.slice ao acc.length co) (.slice ah nh ch)) rfl rfl _ _ HT2.out.g Try.info8D rfl (d8A_one _ _ _ _ _ _ _ _ _ _) ?_; intro w9 hSg hKg; have HSg := Lib.hid hSg; have HKg := Lib.hid hKg; clear hSg hKg; go_frame))
        have HF := Lib.hid (HT2.out.out HSg.out HKg.out)
        exact bodyPost_ret (v := .tuple #[.agg (d8A d (.slice az nz cz) (.slice ao acc.length co) (.slice ah nh ch)), .int .i64 0]) (results_cell_slot Try.results39 _ _ (w.heap.size + 2) 30 _ _ _ rfl rfl HF.out.g Try.underlying30 rfl Try.info8D) rfl ⟨_, rfl, by rw [HI.out]; exact (HR2.out.kept HKg.out (fun G0 hg e9 => by have := own_lov HR2.out.own hg; omega)).rd.mono (by have := Hlo.out; omega), HF.out.b⟩
      | false =>
        have HI : Hid (plI e es = acc ++ [e]) := Lib.hid (by unfold plI; rw [HPl.out]; rfl)
        clear HPl
        have Hx := He
        go_upto_region 16 with (first | (refine wpl_load rfl _ rfl (w.heap.size + 1) rfl _ _ _ (HT.out.y) Try.underlying83 rfl (info_e8A He.out.len) ?_; go_frame) | (refine wpl_buildK elE8 (by decide) rfl _ rfl (evA e) rfl (evA_size He.out.len) ?_; go_frame) | (refine wpl_appendE elE8 rfl _ _ rfl (w.heap.size + 3) (.slice ao acc.length co) acc rfl (HR.out.below (below_alloc wr (Obj.cells (evA e) 83))) wr.heap.size e rfl (Blk.new wr 83 (evA e)) He.out (by have := Hal.out; omega) (by have := HT.out.g.lt; have := (below_alloc wr (Obj.cells (evA e) 83)).size; omega) ?_; intro an cn w4 hrow hgr; have HT4 := Lib.hid ((HT.out.below (below_alloc wr (Obj.cells (evA e) 83))).grown hgr (fun G0 hg => by have := own_lov HR.out.own hg; omega)); have HR4 := Lib.hid hrow; clear hrow hgr; go_frame))
        have c5 := (HT4.out.x.cell 5).trans (show (d8A d (.slice az nz cz) (.slice ac es.length cc) (.slice ah nh ch))[5]? = some (.slice ac es.length cc) from rfl)
        have f5 := HT4.out.x.frozen 5
        go_upto_region 17 with fail
        have HT2 : Hid (Trio7 30 83 30 w (d8A d (.slice az nz cz) (.slice an (acc.length + 1) cn) (.slice ah nh ch)) (evA e) d8Z (w4.setCell ⟨w.heap.size, 5, none⟩ (.slice an (acc.length + 1) cn))) := Lib.hid (HT4.out.set 5 _)
        have HR2 := Lib.hid (HR4.out.kept ((Kept.refl (· = w.heap.size) w4).setCell (p := ⟨w.heap.size, 5, none⟩) rfl (.slice an (acc.length + 1) cn)) (fun G0 hg e9 => by have := own_lov HR4.out.own hg; omega))
        clear c5 f5 HT HR HT4 HR4
        generalize w4.setCell ⟨w.heap.size, 5, none⟩ (.slice an (acc.length + 1) cn) = w2 at *
        go_wp2_with (first | (refine wpl_load rfl _ rfl (w.heap.size) rfl _ _ _ (HT2.out.x) Try.underlying30 rfl Try.info8D ?_; go_frame) | (refine wpl_store rfl _ _ rfl (w.heap.size + 2) (d8A d (.slice az nz cz) (.slice an (acc.length + 1) cn) (.slice ah nh ch)) rfl rfl _ _ HT2.out.g Try.info8D rfl (d8A_one _ _ _ _ _ _ _ _ _ _) ?_; intro w9 hSg hKg; have HSg := Lib.hid hSg; have HKg := Lib.hid hKg; clear hSg hKg; go_frame))
        have HF := Lib.hid (HT2.out.out HSg.out HKg.out)
        exact bodyPost_ret (v := .tuple #[.agg (d8A d (.slice az nz cz) (.slice an (acc.length + 1) cn) (.slice ah nh ch)), .int .i64 0]) (results_cell_slot Try.results39 _ _ (w.heap.size + 2) 30 _ _ _ rfl rfl HF.out.g Try.underlying30 rfl Try.info8D) rfl ⟨_, rfl, by rw [HI.out]; exact (HR2.out.kept HKg.out (fun G0 hg e9 => by have := own_lov HR2.out.own hg; omega)).rd.mono (by have := Hlo.out; omega), HF.out.b⟩
theorem g8plan {lo : Nat} {w : World} {es : List EvR} {e : EvR} (d : R7d) (az : Option Addr) (nz cz : Nat) (ac : Option Addr) (cc : Nat) (ah : Option Addr) (nh ch : Nat) (hc : RdE 83 lo w (.slice ac es.length cc) es) (he : EvOk e) (hlo : lo ≤ w.heap.size) : Calls Try.prog 39 #[.agg (d8A d (.slice az nz cz) (.slice ac es.length cc) (.slice ah nh ch)), .agg (evA e)] w fun en w' => ∃ vc', en = .returned (.tuple #[.agg (d8A d (.slice az nz cz) vc' (.slice ah nh ch)), .int .i64 (plE e es)]) ∧ RdE 83 lo w' vc' (plL e es) ∧ Below w.heap.size w w' := by
  by_cases h1 : e.at_ < 0
  · exact g8pl_a d az nz cz ac cc ah nh ch hc he hlo h1
  · by_cases h2 : e.kind < 1
    · exact g8pl_b d az nz cz ac cc ah nh ch hc he hlo (by omega) h2
    · by_cases h3 : 4 < e.kind
      · exact g8pl_c d az nz cz ac cc ah nh ch hc he hlo (by omega) (by omega) h3
      · by_cases h4 : 256 ≤ es.length
        · exact g8pl_d d az nz cz ac cc ah nh ch hc he hlo (by omega) (by omega) (by omega) h4
        · exact g8pl_m d az nz cz ac cc ah nh ch hc he hlo (by omega) (by omega) (by omega) (by omega)
end Go.Proofs.Ytajkajgnjcnolaa

