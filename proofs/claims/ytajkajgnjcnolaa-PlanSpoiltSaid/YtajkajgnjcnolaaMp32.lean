import Derived.Test.YtajkajgnjcnolaaMp28
import Derived.Lib.Overlaps
import Derived.Lib.AppendZerosOnto
import Derived.Laws.IdiomCopy
import Derived.Laws.Externs
import Derived.Deep.LoopGhost
namespace Go.Proofs.Ytajkajgnjcnolaa
open Go.RowKit Go.Maps
set_option linter.unusedVariables false
set_option linter.unnecessarySimpa false
set_option linter.unusedSimpArgs false
section
variable {P : Program} {w : World} {ops : Array Oper} {rest : List Oper} {o : Oper} {a : Act} {K : Act → World → Prop} {Q : Exit → Act → World → Prop} {S E : TypeId} {sz : Nat}
theorem exec_sliceF (T : ElK P S E sz) (x lo : Operand) (ho : o.op = .slice S x (some lo) none none) (ad : Option Addr) (len cap k : Nat) (hx : a.eval x = .slice ad len cap) (hl : a.eval lo = .int .i64 (k : Nat)) (h : k ≤ len) (h2 : len ≤ cap) :
    (execOp a.eval o).run P w = .ok (.value (.slice (if cap = k then ad else ad.map (·.add (k * sz))) (len - k) (cap - k))) w := by
  obtain ⟨i0, z0, hi, hz0, hz1, hz2, hz3⟩ := T.info
  have hb : (0 : Int) ≤ (k : Nat) ∧ ((k : Nat) : Int) ≤ (len : Nat) := by omega
  have hr : (Instr.slice S (.slice ad len cap) (some (.int .i64 (k : Nat))) none none).run P w = .ok (.slice (if cap = k then ad else ad.map (·.add (k * sz))) (len - k) (cap - k)) w := by
    simp [Instr.slice, Instr.sliceBounds, Instr.sliceBound, run_underlying T.und, asIntOf, sizeOf, typeInfo, hi, hz1, hb, h]
  have hs : (Instr.sliceAt S (.slice ad len cap) (some (.int .i64 (k : Nat))) none none).run P w = .ok (.slice (if cap = k then ad else ad.map (·.add (k * sz))) (len - k) (cap - k)) w := by
    unfold Instr.sliceAt
    rw [Sem.run_bind, run_underlying T.und]
    exact hr
  unfold execOp
  simp only [ho, hx, hl, Option.map_some, Option.map_none, Sem.run_bind, hs, Result.andThen_ok, Sem.run_pure]
theorem exec_sliceT (T : ElK P S E sz) (x hi : Operand) (ho : o.op = .slice S x none (some hi) none) (ad : Option Addr) (len cap n : Nat) (hx : a.eval x = .slice ad len cap) (hh : a.eval hi = .int .i64 (n : Nat)) (h : n ≤ cap) :
    (execOp a.eval o).run P w = .ok (.value (.slice ad n cap)) w := by
  obtain ⟨i0, z0, hi0, hz0, hz1, hz2, hz3⟩ := T.info
  have hr : (Instr.slice S (.slice ad len cap) none (some (.int .i64 (n : Nat))) none).run P w = .ok (.slice ad n cap) w := by
    simp [Instr.slice, Instr.sliceBounds, Instr.sliceBound, run_underlying T.und, asIntOf, sizeOf, typeInfo, hi0, hz1, h]
    cases ad <;> simp [Addr.add] <;> (intro hh; omega)
  have hs : (Instr.sliceAt S (.slice ad len cap) none (some (.int .i64 (n : Nat))) none).run P w = .ok (.slice ad n cap) w := by
    unfold Instr.sliceAt
    rw [Sem.run_bind, run_underlying T.und]
    exact hr
  unfold execOp
  simp only [ho, hx, hh, Option.map_some, Option.map_none, Sem.run_bind, hs, Result.andThen_ok, Sem.run_pure]
theorem run_copyK (T : ElK P S E sz) (ty : TypeId) (b o dLen dCap : Nat) (ad : Addr) (sLen sCap m : Nat) (cs : List Value) (hm : Nat.min sLen dLen = m) (hn : cs.length = m * sz)
    (hsrc : ∀ j v, cs[j]? = some v → w.cell? (ad.add j) = some v) {t : TypeId} {L : List Value} (hb : Blk w b t L.toArray) (hf : o + cs.length ≤ L.length) (h1 : ∀ v ∈ cs, v.oneCell' = true) :
    (Builtin.copy_ #[S, S] ty #[.slice (some ⟨b, o, none⟩) dLen dCap, .slice (some ad) sLen sCap]).run P w = .ok (goInt m) (w.setCells b o cs) := by
  obtain ⟨i0, z0, hi, hz0, hz1, hz2, hz3⟩ := T.info
  have hl := run_loadCells_list (P := P) w ad cs hsrc
  have hst := run_storeCells_cells (P := P) b o cs 0 w (by simpa using fun j hj => (blk_there hb o cs.length hf j hj).1) (by simpa using fun j hj => (blk_there hb o cs.length hf j hj).2) h1
  simp [Builtin.copy_, run_underlying T.und, Builtin.lenOf, Builtin.firstCells, sizeOf, typeInfo, hi, hz1, hm, ← hn, hl, hst]
theorem wpo_copyK (T : ElK P S E sz) (d x : Operand) (ho : o.op = .call { callee := .builtin .copy, args := #[d, x], argTypes := #[S, S] }) (b p dLen dCap : Nat) (ad : Addr) (sLen sCap m : Nat) (cs : List Value) (hd : a.eval d = .slice (some ⟨b, p, none⟩) dLen dCap) (hx : a.eval x = .slice (some ad) sLen sCap) (hm : Nat.min sLen dLen = m) (hn : cs.length = m * sz)
    (hsrc : ∀ j v, cs[j]? = some v → w.cell? (ad.add j) = some v) {t : TypeId} {L : List Value} (hb : Blk w b t L.toArray) (hf : p + cs.length ≤ L.length) (h1 : ∀ v ∈ cs, v.oneCell' = true)
    (h : ∀ w', Blk w' b t (splice L p cs).toArray → Kept (· = b) w w' → K (a.put o.dst (goInt m)) w') : Oper.wp P o a w K Q := by
  have hr := run_copyK T o.type b p dLen dCap ad sLen sCap m cs hm hn hsrc hb hf h1
  unfold Oper.wp execOp
  simp only [ho, resolve, invoke, builtin, Sem.run_bind, Sem.run_pure, Result.andThen_ok, List.map_toArray, List.map_cons, List.map_nil, hd, hx, hr]
  exact h _ (blk_setCells cs p w L hb hf) (kept_setCells _ _ _ (Kept.refl _ _))
theorem wpl_copyK (T : ElK P S E sz) (hgd : o.guard = none) (d x : Operand) (ho : o.op = .call { callee := .builtin .copy, args := #[d, x], argTypes := #[S, S] }) (b p dLen dCap : Nat) (ad : Addr) (sLen sCap m : Nat) (cs : List Value) (hd : a.eval d = .slice (some ⟨b, p, none⟩) dLen dCap) (hx : a.eval x = .slice (some ad) sLen sCap) (hm : Nat.min sLen dLen = m) (hn : cs.length = m * sz)
    (hsrc : ∀ j v, cs[j]? = some v → w.cell? (ad.add j) = some v) {t : TypeId} {L : List Value} (hb : Blk w b t L.toArray) (hf : p + cs.length ≤ L.length) (h1 : ∀ v ∈ cs, v.oneCell' = true)
    (h : ∀ w', Blk w' b t (splice L p cs).toArray → Kept (· = b) w w' → wpList P ops Q rest (a.put o.dst (goInt m)) w') : wpList P ops Q (o :: rest) a w :=
  wpList_plain hgd fun K' hK => wpo_copyK T d x ho b p dLen dCap ad sLen sCap m cs hd hx hm hn hsrc hb hf h1 (fun w' h2 h3 => hK _ _ (h w' h2 h3))
theorem wpl_growZ (T : ElK P S E sz) (hgd : o.guard = none) (x y : Operand) {tn : TypeId} (htn : P.underlying tn = some (.int .i64)) (ho : o.op = .call { callee := .builtin .append, args := #[x, y], argTypes := #[S, tn] }) (b n cap k : Nat) (olds : List Value) (hx : a.eval x = .slice (some ⟨b, 0, none⟩) n cap) (hy : a.eval y = .int .i64 (k : Nat))
    (hn : olds.length = n * sz) (hsrc : ∀ j v, olds[j]? = some v → w.cell? ⟨b, j, none⟩ = some v) (h0 : 0 < k) (hg : cap < n + k) (h63 : n + k ≤ 100000000)
    (h : ∀ (w' : World) (c : Nat) (L : List Value), n + k ≤ c → c ≤ maxLen → L.length = c * sz → L.take (n * sz) = olds → Blk w' w.heap.size E L.toArray → Below w.heap.size w w' → wpList P ops Q rest (a.put o.dst (.slice (some ⟨w.heap.size, 0, none⟩) (n + k) c)) w') : wpList P ops Q (o :: rest) a w := by
  obtain ⟨i0, z0, hi, hz0, hz1, hz2, hz3⟩ := T.info
  refine wpList_plain hgd fun K' hK => ?_
  have hold : (Builtin.firstCells i0.size n (.slice (some ⟨b, 0, none⟩) n cap)).run P w.drew = .ok olds.toArray w.drew := by
    rw [hz1]
    refine run_firstCells_some w.drew sz n ⟨b, 0, none⟩ n cap olds hn (fun j v hj => ?_)
    have e : (⟨b, 0, none⟩ : Addr).add j = ⟨b, j, none⟩ := by have := Addr.add_mid b 0 j; rwa [Nat.zero_add] at this
    rw [e]
    exact hsrc j v hj
  have hb : (n + k) * i0.bytes ≤ 100000000 * 1024 := Nat.mul_le_mul h63 hz2
  have hkb : k * i0.bytes ≤ 100000000 * 1024 := Nat.mul_le_mul (by omega) hz2
  have hr := Lib.run_append_grow_zeros (P := P) w S tn o.type E i0 z0 .i64 .i64 T.und htn hi hz0 (some ⟨b, 0, none⟩) n cap olds hold k h0 (by rw [hz1]; exact T.pos) hg (by omega) (by omega) (growslice_fits hg (by omega))
  have hG := grownCap_ge w (n + k) cap E
  have hG2 := grownCap_le_maxLen w (n + k) cap E (by unfold maxLen; omega)
  unfold Oper.wp execOp
  simp only [ho, resolve, invoke, builtin, Sem.run_bind, Sem.run_pure, Result.andThen_ok, List.map_toArray, List.map_cons, List.map_nil, hx, hy, hr]
  have e : (olds ++ (Builtin.zeroCells z0.cells k).toList ++ (Builtin.zeroCells z0.cells (grownCap w (n + k) cap E - (n + k))).toList).toArray = olds.toArray ++ Builtin.zeroCells z0.cells k ++ Builtin.zeroCells z0.cells (grownCap w (n + k) cap E - (n + k)) := by simp
  refine hK _ _ (h _ (grownCap w (n + k) cap E) (olds ++ (Builtin.zeroCells z0.cells k).toList ++ (Builtin.zeroCells z0.cells (grownCap w (n + k) cap E - (n + k))).toList) hG hG2 ?_ ?_ (by rw [e]; exact Blk.new w.drew E _) (((Below.refl w.heap.size w).drew).alloc (Nat.le_refl _) _))
  · have z1 : (Builtin.zeroCells z0.cells k).toList.length = k * sz := by rw [Array.length_toList, size_zeroCells, hz3]
    have z2 : (Builtin.zeroCells z0.cells (grownCap w (n + k) cap E - (n + k))).toList.length = (grownCap w (n + k) cap E - (n + k)) * sz := by rw [Array.length_toList, size_zeroCells, hz3]
    rw [List.length_append, List.length_append, z1, z2, hn, ← Nat.add_mul, ← Nat.add_mul]
    congr 1
    omega
  · rw [List.append_assoc, ← hn]
    exact List.take_left' rfl
end
theorem take_splice2 {A E B C : List Value} (hA : C.take A.length = A) (hl : A.length + E.length + B.length ≤ C.length) : (splice (splice C A.length E) (A.length + E.length) B).take (A.length + E.length + B.length) = A ++ E ++ B := by
  have h1 : splice C A.length E = A ++ E ++ C.drop (A.length + E.length) := by unfold splice; rw [hA, List.append_assoc]
  have h2 : (splice C A.length E).take (A.length + E.length) = A ++ E := by rw [h1]; exact List.take_left' (by simp)
  show List.take _ (List.take (A.length + E.length) (splice C A.length E) ++ (B ++ List.drop _ (splice C A.length E))) = _
  rw [h2, ← List.append_assoc]
  exact List.take_left' (by simp; omega)
theorem take_splice3 {A E B C : List Value} (hA : C.take A.length = A) (hl : A.length + E.length + B.length ≤ C.length) : (splice (splice C (A.length + E.length) B) A.length E).take (A.length + E.length + B.length) = A ++ E ++ B := by
  have hd : (splice C (A.length + E.length) B).drop (A.length + E.length) = B ++ C.drop (A.length + E.length + B.length) := by
    unfold splice
    rw [List.drop_left' (by rw [List.length_take]; omega)]
  have ht : (splice C (A.length + E.length) B).take A.length = A := by
    unfold splice
    rw [List.take_append_of_le_length (by rw [List.length_take]; omega), List.take_take, Nat.min_eq_left (by omega), hA]
  have h2 : splice (splice C (A.length + E.length) B) A.length E = A ++ E ++ B ++ C.drop (A.length + E.length + B.length) := by
    show List.take A.length (splice C (A.length + E.length) B) ++ (E ++ List.drop (A.length + E.length) (splice C (A.length + E.length) B)) = _
    rw [ht, hd]
    simp [List.append_assoc]
  rw [h2]
  exact List.take_left' (by simp; omega)
theorem erow_split (es : List EvR) (i : Nat) : erow es = erow (es.take i) ++ erow (es.drop i) := by rw [← erow_append, List.take_append_drop]
theorem erow_take {es : List EvR} (h : ∀ e ∈ es, EvOk e) (i : Nat) (hi : i ≤ es.length) : (erow (es.take i)).length = i * 68 := by
  rw [erow_length (fun e he => h e (List.mem_of_mem_take he)), List.length_take, Nat.min_eq_left hi]
theorem erow_drop {es : List EvR} (h : ∀ e ∈ es, EvOk e) (i : Nat) : (erow (es.drop i)).length = (es.length - i) * 68 := by
  rw [erow_length (fun e he => h e (List.mem_of_mem_drop he)), List.length_drop]
def InsTo (lo : Nat) (w : World) (v : Value) (n : Nat) (es : List EvR) (en : Ending) (w' : World) : Prop :=
  ∃ a c, en = .returned (.slice a n c) ∧ RowE 37 lo w' (.slice a n c) es ∧ es.length = n ∧ Kept (fun g => v.ownBlock = some g) w w' ∧ ∀ g, (Value.slice a n c).ownBlock = some g → v.ownBlock = some g ∨ w.heap.size ≤ g
theorem InsTo.of_blk {lo g c : Nat} {w w' : World} {v : Value} {es : List EvR} {i : Nat} {e : EvR} {L : List Value} (hes : ∀ x ∈ es, EvOk x) (he : EvOk e) (hi : i ≤ es.length) (hg : lo ≤ g) (hb : Blk w' g 37 L.toArray) (hl : L.length = c * 68) (hc : es.length + 1 ≤ c) (hm : c ≤ maxLen)
    (ht : L.take ((es.length + 1) * 68) = erow (es.take i) ++ evL e ++ erow (es.drop i)) (hk : Kept (fun g => v.ownBlock = some g) w w') (hv : v.ownBlock = some g ∨ w.heap.size ≤ g) :
    InsTo lo w v (es.length + 1) (es.take i ++ [e] ++ es.drop i) (.returned (.slice (some ⟨g, 0, none⟩) (es.length + 1) c)) w' := by
  have hok : ∀ x ∈ es.take i ++ [e] ++ es.drop i, EvOk x := fun x hx => by
    rcases List.mem_append.1 hx with hx | hx
    · rcases List.mem_append.1 hx with hx | hx
      · exact hes x (List.mem_of_mem_take hx)
      · obtain rfl := List.mem_singleton.1 hx; exact he
    · exact hes x (List.mem_of_mem_drop hx)
  have hlen : (es.take i ++ [e] ++ es.drop i).length = es.length + 1 := by simp; omega
  refine ⟨_, c, rfl, ⟨hok, ?_⟩, hlen, hk, fun g' hg' => ?_⟩
  · rw [hlen]
    refine ⟨by rw [erow_length hok, hlen], .inr ⟨g, c, L.toArray, rfl, hg, hb, hc, hm, by simpa using hl, ?_⟩⟩
    show L.take ((es.length + 1) * 68) = _
    rw [ht, erow_append, erow_append, erow_single]
  · have : g' = g := by simpa [Value.ownBlock, eq_comm] using hg'
    subst this
    exact hv
theorem shape_blk {w : World} {g : Nat} {t : TypeId} {cs : Array Value} (h : Blk w g t cs) : w.shape? g = some (t, cs.size) := by
  unfold World.shape?
  rw [show w.heap[g]? = _ from h]
theorem Try.sizeEv (w : World) : (sizeOf 37).run Try.prog w = .ok 68 w := by kernel_rfl
theorem wpl_appendE2 {P : Program} {w : World} {ops : Array Oper} {rest : List Oper} {o : Oper} {a : Act} {Q : Exit → Act → World → Prop} {S E : TypeId} (T : ElK P S E 68) (hgd : o.guard = none) (s x : Operand) (ho : o.op = .call { callee := .builtin .append, args := #[s, x], argTypes := #[S, S] })
    (base : Nat) (v : Value) (es : List EvR) (hs : a.eval s = v) (hown : RowE E base w v es) (b : Nat) (e : EvR) (hx : a.eval x = .slice (some ⟨b, 0, none⟩) 1 1) (hb : Blk w b E (evA e)) (he : EvOk e) (hk : es.length ≤ 1000000) (hbase : base ≤ w.heap.size)
    (h : ∀ an cn w', RowE E base w' (.slice an (es.length + 1) cn) (es ++ [e]) → w.grownBy w' v.ownBlock → ((Value.slice an (es.length + 1) cn).ownBlock = v.ownBlock ∨ (Value.slice an (es.length + 1) cn).ownBlock = some w.heap.size) → wpList P ops Q rest (a.put o.dst (.slice an (es.length + 1) cn)) w') : wpList P ops Q (o :: rest) a w := by
  refine wpl_appendK T hgd s x ho base v es.length (erow es) hs hown.own (some ⟨b, 0, none⟩) 1 1 (evL e) hx (by rw [evL_length he.len]) (fun e => by cases e) (fun ad had j u hu => ?_) (evL_one e) (by omega) hbase (fun v' w' h1 h2 h3 => ?_)
  · injection had with had
    subst had
    rw [show (⟨b, 0, none⟩ : Addr).add j = ⟨b, j, none⟩ by have := Addr.add_mid b 0 j; rwa [Nat.zero_add] at this, hb.cell j]
    simpa [evA, mixA, evL] using hu
  · obtain ⟨an, cn, rfl⟩ := own_slice h1
    refine h an cn w' ⟨fun y hy => ?_, ?_⟩ h2 h3
    · rcases List.mem_append.1 hy with hy | hy
      · exact hown.ok y hy
      · obtain rfl := List.mem_singleton.1 hy
        exact he
    · rw [erow_append, erow_single, List.length_append]
      exact h1
set_option maxRecDepth 100000 in
set_option maxHeartbeats 2000000 in
theorem pins_end {lo : Nat} {w : World} {v : Value} {es R : List EvR} (e : EvR) (vb : Nat) (hr : RowE 37 lo w v es) (he : EvOk e) (hb : Blk w vb 37 (evA e)) (hn : es.length ≤ 1000000) (hlo : lo ≤ w.heap.size) (hR : R = es ++ [e]) :
    Calls Try.prog 52 #[v, .int .i64 (es.length : Nat), .slice (some ⟨vb, 0, none⟩) 1 1] w (InsTo lo w v (es.length + 1) R) := by
  obtain ⟨a, c, rfl⟩ := hr.slice
  obtain ⟨_, c1, c2⟩ := ownK_cap hr.own
  unfold maxLen at c2
  have Hr := Lib.hid hr
  have He := Lib.hid he
  have Hb := Lib.hid hb
  have Hlo := Lib.hid hlo
  have HR := Lib.hid hR
  obtain ⟨V, hV⟩ : ∃ V, Value.slice (if c = es.length then a else a.map (·.add (es.length * 68))) (es.length - es.length) (c - es.length) = V := ⟨_, rfl⟩
  have HV := Lib.hid hV
  obtain ⟨B, hB⟩ : ∃ B, B = (Value.slice a es.length c).ownBlock := ⟨_, rfl⟩
  have HB := Lib.hid hB
  clear hr he hb hlo hR hV hB
  go_enter Try.func52, Try.ntmps52
  go_wp2_with (first
    | (refine wpl_run (by rfl) V ((exec_sliceF elEv _ _ rfl a es.length c es.length rfl rfl (by omega) (by omega)).trans (by rw [HV.out])) ?_; go_frame)
    | (refine wpl_appendE2 elEv rfl _ _ rfl lo (.slice a es.length c) es rfl Hr.out vb e rfl Hb.out He.out hn Hlo.out ?_; intro an cn w1 hrow hgr hown; have HR1 := Lib.hid hrow; have HG1 := Lib.hid hgr; have HO1 := Lib.hid hown; clear hrow hgr hown; go_frame))
  go_ret
  refine ⟨an, cn, rfl, by rw [HR.out]; exact HR1.out, by rw [HR.out]; simp, (Kept.refl _ w).grown HG1.out (fun g hg => hg), fun g hg => ?_⟩
  rcases HO1.out with h9 | h9
  · exact .inl (h9 ▸ hg)
  · rw [h9] at hg
    injection hg with hg
    exact .inr (Nat.le_of_eq hg)
theorem exec_sliceG {P : Program} {w : World} {o : Oper} {a : Act} {S E : TypeId} (T : ElK P S E 68) (x lo : Operand) (ho : o.op = .slice S x (some lo) none none) (g len cap k : Nat) (hx : a.eval x = .slice (some ⟨g, 0, none⟩) len cap) (hl : a.eval lo = .int .i64 (k : Nat)) (h : k ≤ len) (h2 : len ≤ cap) (h3 : k < cap) :
    (execOp a.eval o).run P w = .ok (.value (.slice (some ⟨g, k * 68, none⟩) (len - k) (cap - k))) w := by
  rw [exec_sliceF T x lo ho (some ⟨g, 0, none⟩) len cap k hx hl h h2, if_neg (by omega), Option.map_some, show (⟨g, 0, none⟩ : Addr).add (k * 68) = ⟨g, k * 68, none⟩ by have := Addr.add_mid g 0 (k * 68); rwa [Nat.zero_add] at this]
theorem row_src {lo g c n i : Nat} {w : World} {es : List EvR} (hr : RowE 37 lo w (.slice (some ⟨g, 0, none⟩) n c) es) (hi : i ≤ es.length) : ∀ j u, (erow (es.drop i))[j]? = some u → w.cell? ((⟨g, i * 68, none⟩ : Addr).add j) = some u := fun j u hj => by
  have h1 := (ownK_src hr.own).2 ⟨g, 0, none⟩ rfl (i * 68 + j) u (by
    rw [erow_split es i, List.getElem?_append_right (by rw [erow_take hr.ok i hi]; omega), erow_take hr.ok i hi, Nat.add_sub_cancel_left]
    exact hj)
  rw [Addr.add_mid g (i * 68) j]
  have h2 := Addr.add_mid g 0 (i * 68 + j)
  rw [Nat.zero_add] at h2
  rwa [h2] at h1
theorem row_srcT {lo g c n i : Nat} {w : World} {es : List EvR} (hr : RowE 37 lo w (.slice (some ⟨g, 0, none⟩) n c) es) (hi : i ≤ es.length) : ∀ j u, (erow (es.take i))[j]? = some u → w.cell? ⟨g, j, none⟩ = some u := fun j u hj => by
  have h1 := (ownK_src hr.own).2 ⟨g, 0, none⟩ rfl j u (by
    rw [erow_split es i, List.getElem?_append_left (List.getElem?_eq_some_iff.1 hj).1]
    exact hj)
  have h2 := Addr.add_mid g 0 j
  rw [Nat.zero_add] at h2
  rwa [h2] at h1
theorem ev_src {w : World} {g : Nat} {t : TypeId} {e : EvR} (h : Blk w g t (evA e)) : ∀ j u, (evL e)[j]? = some u → w.cell? ((⟨g, 0, none⟩ : Addr).add j) = some u := fun j u hj => by
  have h2 := Addr.add_mid g 0 j
  rw [Nat.zero_add] at h2
  rw [h2, h.cell j]
  simpa [evA, mixA, evL] using hj
theorem fin_grow {es : List EvR} {e : EvR} {L : List Value} {i : Nat} (hok : ∀ x ∈ es, EvOk x) (he : EvOk e) (hi : i ≤ es.length) (hl : (es.length + 1) * 68 ≤ L.length) (hA : L.take (i * 68) = erow (es.take i)) :
    (splice (splice L (i * 68) (evL e)) ((i + 1) * 68) (erow (es.drop i))).take ((es.length + 1) * 68) = erow (es.take i) ++ evL e ++ erow (es.drop i) ∧ (splice (splice L (i * 68) (evL e)) ((i + 1) * 68) (erow (es.drop i))).length = L.length := by
  have h1 := erow_take hok i hi
  have h2 := erow_drop hok i
  have h3 := evL_length he.len
  have k := take_splice2 (A := erow (es.take i)) (E := evL e) (B := erow (es.drop i)) (C := L) (by rw [h1]; exact hA) (by rw [h1, h2, h3]; omega)
  rw [h1, h2, h3, show i * 68 + 68 = (i + 1) * 68 by omega, show (i + 1) * 68 + (es.length - i) * 68 = (es.length + 1) * 68 by omega] at k
  refine ⟨k, ?_⟩
  rw [length_splice _ _ _ (by rw [length_splice _ _ _ (by rw [h3]; omega), h2]; omega), length_splice _ _ _ (by rw [h3]; omega)]
theorem fin_shift {es : List EvR} {e : EvR} {L : List Value} {i : Nat} (hok : ∀ x ∈ es, EvOk x) (he : EvOk e) (hi : i ≤ es.length) (hl : (es.length + 1) * 68 ≤ L.length) (hA : L.take (i * 68) = erow (es.take i)) :
    (splice (splice L ((i + 1) * 68) (erow (es.drop i))) (i * 68) (evL e)).take ((es.length + 1) * 68) = erow (es.take i) ++ evL e ++ erow (es.drop i) ∧ (splice (splice L ((i + 1) * 68) (erow (es.drop i))) (i * 68) (evL e)).length = L.length := by
  have h1 := erow_take hok i hi
  have h2 := erow_drop hok i
  have h3 := evL_length he.len
  have k := take_splice3 (A := erow (es.take i)) (E := evL e) (B := erow (es.drop i)) (C := L) (by rw [h1]; exact hA) (by rw [h1, h2, h3]; omega)
  rw [h1, h2, h3, show i * 68 + 68 = (i + 1) * 68 by omega, show (i + 1) * 68 + (es.length - i) * 68 = (es.length + 1) * 68 by omega] at k
  refine ⟨k, ?_⟩
  rw [length_splice _ _ _ (by rw [length_splice _ _ _ (by rw [h2]; omega), h3]; omega), length_splice _ _ _ (by rw [h2]; omega)]
set_option maxRecDepth 100000 in
set_option maxHeartbeats 2000000 in
theorem pins_grow {lo g c : Nat} {w : World} {es : List EvR} (e : EvR) (vb i : Nat) (hr : RowE 37 lo w (.slice (some ⟨g, 0, none⟩) es.length c) es) (he : EvOk e) (hb : Blk w vb 37 (evA e)) (hn : es.length ≤ 1000000) (hlo : lo ≤ w.heap.size) (hi : i < es.length) (hc : c < es.length + 1) :
    Calls Try.prog 52 #[.slice (some ⟨g, 0, none⟩) es.length c, .int .i64 (i : Nat), .slice (some ⟨vb, 0, none⟩) 1 1] w (InsTo lo w (.slice (some ⟨g, 0, none⟩) es.length c) (es.length + 1) (es.take i ++ [e] ++ es.drop i)) := by
  obtain ⟨_, c1', c2⟩ := ownK_cap hr.own
  unfold maxLen at c2
  have Hr := Lib.hid hr
  have He := Lib.hid he
  have Hb := Lib.hid hb
  have Hlo := Lib.hid hlo
  have Hk : Hid (((es.length : Nat) : Int) + 1 - ((i : Nat) : Int) = ((es.length + 1 - i : Nat) : Int)) := Lib.hid (by omega)
  have Hk2 : Hid (i + (es.length + 1 - i) = es.length + 1) := Lib.hid (by omega)
  have Hgl : Hid (g < w.heap.size) := Lib.hid (own_lt hr.own rfl)
  clear hr he hb hlo
  obtain ⟨Q0, hQ0⟩ : ∃ Q0, InsTo lo w (.slice (some ⟨g, 0, none⟩) es.length c) (es.length + 1) (es.take i ++ [e] ++ es.drop i) = Q0 := ⟨_, rfl⟩
  have HQ0 := Lib.hid hQ0
  rw [hQ0]
  clear hQ0
  go_enter Try.func52, Try.ntmps52
  go_upto_region 10 with (first
    | (refine wpl_run (by rfl) (.slice (some ⟨g, i * 68, none⟩) (es.length - i) (c - i)) (exec_sliceG elEv _ _ rfl g es.length c i rfl rfl (by omega) (by omega) (by omega)) ?_; go_frame)
    | (refine wpl_run (by rfl) (.slice (some ⟨g, 0, none⟩) i c) (exec_sliceT elEv _ _ rfl (some ⟨g, 0, none⟩) es.length c i rfl rfl (by omega)) ?_; go_frame)
    | (refine wpl_growZ elEv rfl _ _ Try.underlying3 rfl g i c (es.length + 1 - i) (erow (es.take i)) rfl (congrArg (Value.int .i64) Hk.out) (erow_take Hr.out.ok i (by omega)) (row_srcT Hr.out (by omega)) (by omega) (by omega) (by omega) ?_; intro w1 c1 L1 hc1 hm1 hl1 ht1 hb1 hbel; rw [Hk2.out]; rw [Hk2.out] at hc1; have Hm1 := Lib.hid hm1; have Hl1 := Lib.hid hl1; have Ht1 := Lib.hid ht1; have HB1 := Lib.hid hb1; have HBe := Lib.hid hbel; clear hm1 hl1 ht1 hb1 hbel; go_frame))
  have Hb1 := Lib.hid (Hb.out.below HBe.out Hb.out.lt)
  have Hr1 := Lib.hid (Hr.out.below HBe.out)
  have Hc1 : c1 ≤ 9223372036854775807 := by have := Hm1.out; unfold maxLen at this; omega
  go_upto_region 11 with (first
    | (refine wpl_run (by rfl) (.slice (some ⟨w.heap.size, i * 68, none⟩) (es.length + 1 - i) (c1 - i)) (exec_sliceG elEv _ _ rfl w.heap.size (es.length + 1) c1 i rfl rfl (by omega) (by omega) (by omega)) ?_; go_frame)
    | (refine wpl_copyK elEv rfl _ _ rfl w.heap.size (i * 68) (es.length + 1 - i) (c1 - i) ⟨vb, 0, none⟩ 1 1 1 (evL e) rfl rfl (by show min _ _ = _; omega) (evL_length He.out.len) (ev_src Hb1.out) HB1.out (by rw [evL_length He.out.len, Hl1.out]; omega) (evL_one e) ?_; intro w2 hb9 hk9; have HB2 := Lib.hid hb9; have HK2 := Lib.hid hk9; clear hb9 hk9; go_frame))
  have Hr2 := Lib.hid (Hr1.out.kept HK2.out (fun q hq e9 => by
    have h9 : q = g := by simpa [Value.ownBlock, eq_comm] using hq
    have := Hgl.out; omega))
  refine wp_region_held (S := fun w' => Kept (· = w.heap.size) w2 w') (by kernel_rfl) ?_
  change wpAnyH _ _ _ _ _ _ _ _ (World.drew _)
  have hS : Kept (· = w.heap.size) w2 w2.drew := (Kept.refl _ _).drew
  have hB0 : Below w2.heap.size w2 w2.drew := (Below.refl _ _).drew
  refine takeH hS (i := 0) (d := 46) (v := .slice (some ⟨w.heap.size, 0, none⟩) (es.length + 1) (c1)) rfl rfl (by kernel_rfl) (by kernel_rfl) (by kernel_rfl) (fun _ _ _ h => h) (Or.inl ⟨by kernel_rfl, fun w' hw' => by kernel_rfl⟩) ?_
  refine takeH hS (i := 1) (d := 47) (v := .int .i64 ((i : Nat))) rfl rfl (by kernel_rfl) (by kernel_rfl) (by kernel_rfl) (fun _ _ _ h => h) (Or.inl ⟨by kernel_rfl, fun w' hw' => by kernel_rfl⟩) ?_
  refine takeH hS (i := 2) (d := 48) (v := .int .i64 (1)) rfl rfl (by kernel_rfl) (by kernel_rfl) (by kernel_rfl) (fun _ _ _ h => h) (Or.inl ⟨by kernel_rfl, fun w' hw' => by kernel_rfl⟩) ?_
  refine takeH hS (i := 3) (d := 49) (v := .int .i64 (((i + 1 : Nat) : Int))) rfl rfl (by kernel_rfl) (by kernel_rfl) (by kernel_rfl) (fun _ _ _ h => h) (Or.inl ⟨by kernel_rfl, fun w' hw' => by exact exec_add _ _ rfl ((i : Nat)) (1) (((i + 1 : Nat) : Int)) rfl rfl (by omega) (by omega)⟩) ?_
  try go_frame
  refine takeH hS (i := 4) (d := 50) (v := .slice (some ⟨w.heap.size, (i + 1) * 68, none⟩) (es.length + 1 - (i + 1)) (c1 - (i + 1))) rfl rfl (by kernel_rfl) (by kernel_rfl) (by kernel_rfl) (fun _ _ _ h => h) (Or.inl ⟨by kernel_rfl, fun w' hw' => by exact exec_sliceG elEv _ _ rfl w.heap.size (es.length + 1) c1 (i + 1) rfl rfl (by omega) (by omega) (by omega)⟩) ?_
  refine takeH hS (i := 5) (d := 51) (v := .slice (some ⟨g, 0, none⟩) (es.length) (c)) rfl rfl (by kernel_rfl) (by kernel_rfl) (by kernel_rfl) (fun _ _ _ h => h) (Or.inl ⟨by kernel_rfl, fun w' hw' => by kernel_rfl⟩) ?_
  refine takeH hS (i := 6) (d := 52) (v := .int .i64 ((i : Nat))) rfl rfl (by kernel_rfl) (by kernel_rfl) (by kernel_rfl) (fun _ _ _ h => h) (Or.inl ⟨by kernel_rfl, fun w' hw' => by kernel_rfl⟩) ?_
  refine takeH hS (i := 7) (d := 53) (v := .slice (some ⟨g, i * 68, none⟩) (es.length - i) (c - i)) rfl rfl (by kernel_rfl) (by kernel_rfl) (by kernel_rfl) (fun _ _ _ h => h) (Or.inl ⟨by kernel_rfl, fun w' hw' => by exact exec_sliceG elEv _ _ rfl g es.length c i rfl rfl (by omega) (by omega) (by omega)⟩) ?_
  try go_frame
  refine nextH (i := 8) rfl (by kernel_rfl) (by kernel_rfl) (fun K' hK => ?_)
  refine wpo_copyK elEv _ _ rfl w.heap.size ((i + 1) * 68) (es.length + 1 - (i + 1)) (c1 - (i + 1)) ⟨g, i * 68, none⟩ (es.length - i) (c - i) (es.length - i) (erow (es.drop i)) rfl rfl (by show min _ _ = _; omega) (erow_drop Hr2.out.ok i) (row_src (Hr2.out.below hB0) (Nat.le_of_lt hi)) (HB2.out.below hB0 HB2.out.lt) (by rw [erow_drop Hr2.out.ok i, length_splice _ _ _ (by rw [evL_length He.out.len, Hl1.out]; omega), Hl1.out]; omega) (erow_one _) ?_
  intro w2c1 hb9 hk9
  have HB3 := Lib.hid hb9
  have HK3 := Lib.hid ((Kept.of_below (S := fun q => q = w.heap.size) hB0).trans hk9)
  have hS1 : Kept (· = w.heap.size) w2 w2c1 := hS.trans hk9
  refine hK.out _ _ ⟨hS1, ?_⟩
  clear hK K' hb9 hk9 hS
  change wpAnyH _ _ _ _ _ _ _ (Act.put _ (some 54) _) _
  go_frame
  refine wpAnyH_done (by kernel_rfl) ?_ _
  try go_frame
  have HF : Hid (Kept (fun q => (Value.slice (some ⟨g, 0, none⟩) es.length c).ownBlock = some q) w w2c1) := Lib.hid (((Kept.of_below (S := fun _ => False) HBe.out).andThen (U := fun q => q = w.heap.size) HK2.out (fun _ _ h => h.elim) (fun _ _ h => h)).andThen (U := fun q => q = w.heap.size) HK3.out (fun _ _ h => h) (fun _ _ h => h) |>.mono (fun q hq e9 => absurd e9 (by omega)))
  clear hS1
  generalize w2c1 = w9 at *
  go_wp2_with fail
  try go_ret
  rw [← HQ0.out]
  obtain ⟨f1, f2⟩ := fin_grow Hr2.out.ok He.out (Nat.le_of_lt hi) (by rw [Hl1.out]; omega) Ht1.out
  exact InsTo.of_blk Hr2.out.ok He.out (Nat.le_of_lt hi) Hlo.out HB3.out (f2.trans Hl1.out) hc1 Hm1.out f1 HF.out (.inr (Nat.le_refl _))
set_option maxRecDepth 100000 in
set_option maxHeartbeats 2000000 in
theorem pins_shift {lo g c : Nat} {w : World} {es : List EvR} (e : EvR) (vb i : Nat) (hr : RowE 37 lo w (.slice (some ⟨g, 0, none⟩) es.length c) es) (he : EvOk e) (hb : Blk w vb 37 (evA e)) (hvg : vb ≠ g) (hn : es.length ≤ 1000000) (hlo : lo ≤ w.heap.size) (hi : i < es.length) (hc : es.length + 1 ≤ c) :
    Calls Try.prog 52 #[.slice (some ⟨g, 0, none⟩) es.length c, .int .i64 (i : Nat), .slice (some ⟨vb, 0, none⟩) 1 1] w (InsTo lo w (.slice (some ⟨g, 0, none⟩) es.length c) (es.length + 1) (es.take i ++ [e] ++ es.drop i)) := by
  obtain ⟨g', cap', cur, hv', hlg, hcur, hcc, hcm, hcs, hct⟩ := (hr.own.2).resolve_left (fun h => by simp at h)
  obtain ⟨rfl, -, rfl⟩ : g = g' ∧ True ∧ c = cap' := by simpa using hv'
  have HB1 : Hid (Blk w g 37 cur.toList.toArray) := Lib.hid (by show w.heap[g]? = _; simpa using hcur)
  have Hl1 : Hid (cur.toList.length = c * 68) := Lib.hid (by simpa using hcs)
  have Ht1 : Hid (cur.toList.take (i * 68) = erow (es.take i)) := Lib.hid (by
    have h1 : (cur.toList.take (es.length * 68)).take (i * 68) = cur.toList.take (i * 68) := by rw [List.take_take, Nat.min_eq_left (by omega)]
    rw [← h1, hct, erow_split es i]
    exact List.take_left' (erow_take hr.ok i (by omega)))
  have Hlg := Lib.hid hlg
  have Hm1 := Lib.hid hcm
  have hov : ∀ lb cb, (callFunc 69 #[.slice (some ⟨vb, 0, none⟩) 1 1, .slice (some ⟨g, (i + 1) * 68, none⟩) lb cb]).run Try.prog w = .ok (.value (.bool false)) w := fun lb cb => by
    rw [run_callFunc_extern Try.func69 (by kernel_rfl) (by kernel_rfl) (by kernel_rfl) (e := Extern.SlicesOverlaps.overlaps #[88, 88] #[4]) (by kernel_rfl),
      Lib.run_overlaps_apart w 88 4 37 Try.underlying88 68 Try.sizeEv ⟨vb, 0, none⟩ ⟨g, (i + 1) * 68, none⟩ 1 1 lb cb hvg 37 37 _ _ (shape_blk hb) (shape_blk HB1.out) (by simp only [List.size_toArray, Array.length_toList]; omega) (hb.frozen 0) (hb.frozen _)]
    rfl
  have Hov := Lib.hid hov
  clear hcur hcs hct hlg hcm hv' hov hcc
  obtain ⟨_, c1', c2⟩ := ownK_cap hr.own
  unfold maxLen at c2
  have Hr := Lib.hid hr
  have He := Lib.hid he
  have Hb := Lib.hid hb
  have Hlo := Lib.hid hlo
  have Hk : Hid (((es.length : Nat) : Int) + 1 - ((i : Nat) : Int) = ((es.length + 1 - i : Nat) : Int)) := Lib.hid (by omega)
  have Hk2 : Hid (i + (es.length + 1 - i) = es.length + 1) := Lib.hid (by omega)
  have Hgl : Hid (g < w.heap.size) := Lib.hid (own_lt hr.own rfl)
  clear hr he hb hlo
  obtain ⟨Q0, hQ0⟩ : ∃ Q0, InsTo lo w (.slice (some ⟨g, 0, none⟩) es.length c) (es.length + 1) (es.take i ++ [e] ++ es.drop i) = Q0 := ⟨_, rfl⟩
  have HQ0 := Lib.hid hQ0
  rw [hQ0]
  clear hQ0
  go_enter Try.func52, Try.ntmps52
  go_upto_region 15 with (first
    | (refine wpl_run (by rfl) (.slice (some ⟨g, i * 68, none⟩) (es.length - i) (c - i)) (exec_sliceG elEv _ _ rfl g es.length c i rfl rfl (by omega) (by omega) (by omega)) ?_; go_frame)
    | (refine wpl_run (by rfl) (.slice (some ⟨g, 0, none⟩) (es.length + 1) c) (exec_sliceT elEv _ _ rfl (some ⟨g, 0, none⟩) es.length c (es.length + 1) rfl rfl (by omega)) ?_; go_frame)
    | (refine wpl_run (by rfl) (.slice (some ⟨g, (i + 1) * 68, none⟩) (es.length + 1 - (i + 1)) (c - (i + 1))) (exec_sliceG elEv _ _ rfl g (es.length + 1) c (i + 1) rfl rfl (by omega) (by omega) (by omega)) ?_; go_frame)
    | simp only [Hov.out])
  refine wp_region_held (S := fun w' => Kept (· = g) w w') (by kernel_rfl) ?_
  change wpAnyH _ _ _ _ _ _ _ _ (World.drew _)
  have hS : Kept (· = g) w w.drew := (Kept.refl _ _).drew
  have hB0 : Below w.heap.size w w.drew := (Below.refl _ _).drew
  refine takeH hS (i := 0) (d := 69) (v := .slice (some ⟨g, 0, none⟩) (es.length + 1) (c)) rfl rfl (by kernel_rfl) (by kernel_rfl) (by kernel_rfl) (fun _ _ _ h => h) (Or.inl ⟨by kernel_rfl, fun w' hw' => by kernel_rfl⟩) ?_
  refine takeH hS (i := 1) (d := 70) (v := .int .i64 ((i : Nat))) rfl rfl (by kernel_rfl) (by kernel_rfl) (by kernel_rfl) (fun _ _ _ h => h) (Or.inl ⟨by kernel_rfl, fun w' hw' => by kernel_rfl⟩) ?_
  refine takeH hS (i := 2) (d := 71) (v := .int .i64 (1)) rfl rfl (by kernel_rfl) (by kernel_rfl) (by kernel_rfl) (fun _ _ _ h => h) (Or.inl ⟨by kernel_rfl, fun w' hw' => by kernel_rfl⟩) ?_
  refine takeH hS (i := 3) (d := 72) (v := .int .i64 (((i + 1 : Nat) : Int))) rfl rfl (by kernel_rfl) (by kernel_rfl) (by kernel_rfl) (fun _ _ _ h => h) (Or.inl ⟨by kernel_rfl, fun w' hw' => by exact exec_add _ _ rfl ((i : Nat)) (1) (((i + 1 : Nat) : Int)) rfl rfl (by omega) (by omega)⟩) ?_
  try go_frame
  refine takeH hS (i := 4) (d := 73) (v := .slice (some ⟨g, (i + 1) * 68, none⟩) (es.length + 1 - (i + 1)) (c - (i + 1))) rfl rfl (by kernel_rfl) (by kernel_rfl) (by kernel_rfl) (fun _ _ _ h => h) (Or.inl ⟨by kernel_rfl, fun w' hw' => by exact exec_sliceG elEv _ _ rfl g (es.length + 1) c (i + 1) rfl rfl (by omega) (by omega) (by omega)⟩) ?_
  refine takeH hS (i := 5) (d := 74) (v := .slice (some ⟨g, 0, none⟩) (es.length + 1) (c)) rfl rfl (by kernel_rfl) (by kernel_rfl) (by kernel_rfl) (fun _ _ _ h => h) (Or.inl ⟨by kernel_rfl, fun w' hw' => by kernel_rfl⟩) ?_
  refine takeH hS (i := 6) (d := 75) (v := .int .i64 ((i : Nat))) rfl rfl (by kernel_rfl) (by kernel_rfl) (by kernel_rfl) (fun _ _ _ h => h) (Or.inl ⟨by kernel_rfl, fun w' hw' => by kernel_rfl⟩) ?_
  refine takeH hS (i := 7) (d := 76) (v := .slice (some ⟨g, i * 68, none⟩) (es.length + 1 - i) (c - i)) rfl rfl (by kernel_rfl) (by kernel_rfl) (by kernel_rfl) (fun _ _ _ h => h) (Or.inl ⟨by kernel_rfl, fun w' hw' => by exact exec_sliceG elEv _ _ rfl g (es.length + 1) c i rfl rfl (by omega) (by omega) (by omega)⟩) ?_
  try go_frame
  refine nextH (i := 8) rfl (by kernel_rfl) (by kernel_rfl) (fun K' hK => ?_)
  refine wpo_copyK elEv _ _ rfl g ((i + 1) * 68) (es.length + 1 - (i + 1)) (c - (i + 1)) ⟨g, i * 68, none⟩ (es.length + 1 - i) (c - i) (es.length - i) (erow (es.drop i)) rfl rfl (by show min _ _ = _; omega) (erow_drop Hr.out.ok i) (row_src (Hr.out.below hB0) (Nat.le_of_lt hi)) (HB1.out.below hB0 HB1.out.lt) (by rw [erow_drop Hr.out.ok i, Hl1.out]; omega) (erow_one _) ?_
  intro wc1 hb9 hk9
  have HB3 := Lib.hid hb9
  have HK3 := Lib.hid ((Kept.of_below (S := fun q => q = g) hB0).trans hk9)
  have hS1 : Kept (· = g) w wc1 := hS.trans hk9
  refine hK.out _ _ ⟨hS1, ?_⟩
  clear hK K' hb9 hk9 hS
  change wpAnyH _ _ _ _ _ _ _ (Act.put _ (some 77) _) _
  go_frame
  refine wpAnyH_done (by kernel_rfl) ?_ _
  try go_frame
  have Hb3 := Lib.hid (Hb.out.kept HK3.out hvg)
  clear hS1
  generalize wc1 = w3 at *
  go_wp2_with (first
    | (refine wpl_run (by rfl) (.slice (some ⟨g, i * 68, none⟩) (es.length + 1 - i) (c - i)) (exec_sliceG elEv _ _ rfl g (es.length + 1) c i rfl rfl (by omega) (by omega) (by omega)) ?_; go_frame)
    | (refine wpl_copyK elEv rfl _ _ rfl g (i * 68) (es.length + 1 - i) (c - i) ⟨vb, 0, none⟩ 1 1 1 (evL e) rfl rfl (by show min _ _ = _; omega) (evL_length He.out.len) (ev_src Hb3.out) HB3.out (by rw [evL_length He.out.len, length_splice _ _ _ (by rw [erow_drop Hr.out.ok i, Hl1.out]; omega), Hl1.out]; omega) (evL_one e) ?_; intro w4 hb9 hk9; have HB4 := Lib.hid hb9; have HK4 := Lib.hid hk9; clear hb9 hk9; go_frame))
  try go_ret
  rw [← HQ0.out]
  obtain ⟨f1, f2⟩ := fin_shift Hr.out.ok He.out (Nat.le_of_lt hi) (by rw [Hl1.out]; omega) Ht1.out
  exact InsTo.of_blk Hr.out.ok He.out (Nat.le_of_lt hi) Hlg.out HB4.out (f2.trans Hl1.out) hc Hm1.out f1 ((HK3.out.trans HK4.out).mono (fun q _ hq => by rw [hq]; rfl)) (.inl rfl)
theorem pins {lo : Nat} {w : World} {v : Value} {es : List EvR} (e : EvR) (vb i : Nat) (hr : RowE 37 lo w v es) (he : EvOk e) (hb : Blk w vb 37 (evA e)) (hvg : v.ownBlock ≠ some vb) (hn : es.length ≤ 1000000) (hlo : lo ≤ w.heap.size) (hi : i ≤ es.length) :
    Calls Try.prog 52 #[v, .int .i64 (i : Nat), .slice (some ⟨vb, 0, none⟩) 1 1] w (InsTo lo w v (es.length + 1) (es.take i ++ [e] ++ es.drop i)) := by
  rcases Nat.lt_or_ge i es.length with h1 | h1
  · obtain ⟨a, c, rfl⟩ := hr.slice
    obtain ⟨g, rfl, _, _⟩ := ownK_form hr.own (by omega)
    by_cases hc : c < es.length + 1
    · exact pins_grow e vb i hr he hb hn hlo h1 hc
    · exact pins_shift e vb i hr he hb (fun h => hvg (by rw [h]; rfl)) hn hlo h1 (by omega)
  · obtain rfl : i = es.length := by omega
    refine pins_end e vb hr he hb hn hlo ?_
    rw [List.take_of_length_le (Nat.le_refl _), List.drop_of_length_le (Nat.le_refl _), List.append_nil]
end Go.Proofs.Ytajkajgnjcnolaa

