import Derived.Test.YtajkajgnjcnolaaMp01
import Derived.Test.YtajkajgnjcnolaaMp02
import Derived.Test.YtajkajgnjcnolaaMp17
import Derived.Test.YtajkajgnjcnolaaMp09
namespace Go.Proofs.Ytajkajgnjcnolaa
open Go.RowKit
set_option linter.unusedVariables false
set_option linter.unnecessarySimpa false
set_option linter.unusedSimpArgs false
structure EvR where
  at_ : Int
  kind : Int
  zone : Int
  off : Int
  p : List Nat
  deriving DecidableEq
def evZ (e : EvR) : List Int := [e.at_, e.kind, e.zone, e.off]
def evL (e : EvR) : List Value := mixL (evZ e) e.p
def evA (e : EvR) : Array Value := mixA (evZ e) e.p
def ev0 : EvR := ⟨0, 0, 0, 0, zeros 64⟩
structure EvOk (e : EvR) : Prop where
  len : e.p.length = 64
  lt : ∀ c ∈ e.p, c < 256
  wf : ∀ z ∈ evZ e, (Lit.int .i64 z).wf = true
theorem evA_size {e : EvR} (h : e.p.length = 64) : (evA e).size = 68 := by rw [evA, mixA_size, h]; rfl
theorem evL_length {e : EvR} (h : e.p.length = 64) : (evL e).length = 68 := by rw [evL, mixL_length, h]; rfl
theorem evA_one (e : EvR) : (evA e).all (·.oneCell') = true := mixA_one _ _
theorem evL_one (e : EvR) : ∀ u ∈ evL e, u.oneCell' = true := by
  intro u hu
  rcases List.mem_append.1 hu with h | h
  · obtain ⟨z, _, rfl⟩ := List.mem_map.1 h; rfl
  · exact bvals_one _ u h
theorem evA_at0 (e : EvR) : (evA e)[0]? = some (.int .i64 e.at_) := mixA_int (evZ e) e.p 0 (by simp [evZ])
theorem evA_at1 (e : EvR) : (evA e)[1]? = some (.int .i64 e.kind) := mixA_int (evZ e) e.p 1 (by simp [evZ])
theorem evA_at2 (e : EvR) : (evA e)[2]? = some (.int .i64 e.zone) := mixA_int (evZ e) e.p 2 (by simp [evZ])
theorem evA_at3 (e : EvR) : (evA e)[3]? = some (.int .i64 e.off) := mixA_int (evZ e) e.p 3 (by simp [evZ])
theorem evL_at0 (e : EvR) : (evL e)[0]? = some (.int .i64 e.at_) := rfl
theorem ev_range {w : World} {g : Nat} {t : TypeId} {e : EvR} (h : Blk w g t (evA e)) : w.rangeAt g 4 (bvals e.p) := mix_range (zs := evZ e) h
theorem infoEv : (Try.prog.info? 37).map (·.size) = some 68 := by kernel_rfl
theorem infoE8 : (Try.prog.info? 83).map (·.size) = some 68 := by kernel_rfl
theorem info_evA {e : EvR} (h : e.p.length = 64) : (Try.prog.info? 37).map (·.size) = some (evA e).size := by rw [evA_size h]; exact infoEv
theorem info_e8A {e : EvR} (h : e.p.length = 64) : (Try.prog.info? 83).map (·.size) = some (evA e).size := by rw [evA_size h]; exact infoE8
theorem info_evL {e : EvR} (h : e.p.length = 64) : (Try.prog.info? 37).map (·.size) = some (evL e).length := by rw [evL_length h]; exact infoEv
theorem info_e8L {e : EvR} (h : e.p.length = 64) : (Try.prog.info? 83).map (·.size) = some (evL e).length := by rw [evL_length h]; exact infoE8
theorem tyEv : MixType Try.prog 37 4 64 :=
  ⟨⟨[_, _, _, _], _, 5, Try.underlying37, rfl, ⟨⟨by decide, Try.underlying3, rfl, Try.cellsI⟩, ⟨by decide, Try.underlying3, rfl, Try.cellsI⟩, ⟨by decide, Try.underlying3, rfl, Try.cellsI⟩, ⟨by decide, Try.underlying3, rfl, Try.cellsI⟩, trivial⟩,
    by decide, rfl, Try.underlying34, Try.underlying5, Try.cellsSec, Try.cellsByte⟩, by kernel_rfl, by kernel_rfl, by kernel_rfl⟩
theorem Try.infoE8p : (Try.prog.info? 83).map (fun i => (i.zero, i.size, i.bytes)) = some (some (.agg (evA ev0)), 68, 96) := by kernel_rfl
theorem elE8 : ElK Try.prog 28 83 68 := by
  obtain ⟨i0, hi, hz0, hz1, hz2⟩ := info_parts Try.infoE8p
  exact ⟨Try.underlying28, ⟨i0, _, hi, hz0, hz1, by rw [hz2]; decide, by show (evA ev0).size = 68; rw [evA_size (zeros_length 64)]⟩, by decide⟩
def erow (es : List EvR) : List Value := (es.map evL).flatten
theorem evL_len {es : List EvR} (h : ∀ e ∈ es, EvOk e) : ∀ r ∈ es.map evL, r.length = 68 := by
  intro r hr
  obtain ⟨e, he, rfl⟩ := List.mem_map.1 hr
  exact evL_length (h e he).len
theorem erow_length {es : List EvR} (h : ∀ e ∈ es, EvOk e) : (erow es).length = es.length * 68 := by
  have := flatten_len (evL_len h)
  rwa [List.length_map] at this
theorem erow_one (es : List EvR) : ∀ u ∈ erow es, u.oneCell' = true := by
  intro u hu
  obtain ⟨r, hr, hu⟩ := List.mem_flatten.1 hu
  obtain ⟨e, _, rfl⟩ := List.mem_map.1 hr
  exact evL_one e u hu
theorem erow_append (a b : List EvR) : erow (a ++ b) = erow a ++ erow b := by simp [erow]
theorem erow_single (e : EvR) : erow [e] = evL e := by simp [erow]
theorem erow_at {es : List EvR} (h : ∀ e ∈ es, EvOk e) (i : Nat) (e : EvR) (he : es[i]? = some e) (j : Nat) (hj : j < 68) : (erow es)[i * 68 + j]? = (evL e)[j]? := by
  obtain ⟨hi, he'⟩ := List.getElem?_eq_some_iff.1 he
  have h1 := flatten_at (evL_len h) i (by simpa using hi) j hj
  rw [List.getD_eq_getElem?_getD, List.getElem?_map, he] at h1
  exact h1
section
variable {T : TypeId} {lo : Nat} {w w' : World} {v : Value} {es : List EvR}
structure RowE (T : TypeId) (lo : Nat) (w : World) (v : Value) (es : List EvR) : Prop where
  ok : ∀ e ∈ es, EvOk e
  own : w.ownsRow lo T 68 v es.length (erow es)
theorem RowE.kept {S : Nat → Prop} (h : RowE T lo w v es) (k : Kept S w w') (hn : ∀ g, v.ownBlock = some g → ¬ S g) : RowE T lo w' v es := ⟨h.ok, own_kept h.own k hn⟩
theorem RowE.below (h : RowE T lo w v es) (hb : Below w.heap.size w w') : RowE T lo w' v es := ⟨h.ok, ownK_below h.own hb⟩
theorem RowE.nil (T : TypeId) (lo : Nat) (w : World) : RowE T lo w (.slice none 0 0) [] := ⟨by simp, ownK_nil _ _ _ _⟩
structure RdE (T : TypeId) (lo : Nat) (w : World) (v : Value) (es : List EvR) : Prop where
  ok : ∀ e ∈ es, EvOk e
  lies : ∃ a cap, v = .slice a es.length cap ∧ es.length ≤ cap ∧ cap ≤ maxLen ∧ (∀ g, v.ownBlock = some g → lo ≤ g ∧ ∃ cur, Blk w g T cur) ∧ (es ≠ [] → ∃ g off, a = some ⟨g, off, none⟩ ∧ ∀ (i : Nat) e, es[i]? = some e → w.rangeAt g (off + i * 68) (evL e))
theorem RdE.slice (h : RdE T lo w v es) : ∃ a cap, v = .slice a es.length cap ∧ es.length ≤ cap ∧ cap ≤ 9223372036854775807 := by
  obtain ⟨a, cap, h1, h2, h3, _⟩ := h.lies
  unfold maxLen at h3
  exact ⟨a, cap, h1, h2, h3⟩
theorem RdE.lov (h : RdE T lo w v es) {g : Nat} (hg : v.ownBlock = some g) : lo ≤ g := by
  obtain ⟨a, cap, h1, h2, h3, h4, _⟩ := h.lies
  exact (h4 g hg).1
theorem RdE.blk (h : RdE T lo w v es) {g : Nat} (hg : v.ownBlock = some g) : ∃ cur, Blk w g T cur := by
  obtain ⟨a, cap, h1, h2, h3, h4, _⟩ := h.lies
  exact (h4 g hg).2
theorem RdE.lt (h : RdE T lo w v es) {g : Nat} (hg : v.ownBlock = some g) : g < w.heap.size := by
  obtain ⟨cur, hb⟩ := h.blk hg
  exact hb.lt
theorem RdE.kept {S : Nat → Prop} (h : RdE T lo w v es) (k : Kept S w w') (hn : ∀ g, v.ownBlock = some g → ¬ S g) : RdE T lo w' v es := by
  obtain ⟨hok, a, cap, rfl, h2, h3, h4, h5⟩ := h
  refine ⟨hok, a, cap, rfl, h2, h3, fun g hg => ⟨(h4 g hg).1, ?_⟩, fun hne => ?_⟩
  · obtain ⟨cur, hb⟩ := (h4 g hg).2
    exact ⟨cur, hb.kept k (hn g hg)⟩
  · obtain ⟨g, off, rfl, hc⟩ := h5 hne
    have hg : (Value.slice (some ⟨g, off, none⟩) es.length cap).ownBlock = some g := rfl
    obtain ⟨cur, hb⟩ := (h4 g hg).2
    have hb' := hb.kept k (hn g hg)
    refine ⟨g, off, rfl, fun i e he j u hu => ?_⟩
    have h6 := hc i e he j u hu
    rw [hb.cell] at h6
    exact (hb'.cell _).trans h6
theorem RdE.below (h : RdE T lo w v es) (hb : Below w.heap.size w w') : RdE T lo w' v es := h.kept (Kept.of_below (S := fun _ => False) hb) (fun _ _ h => h)
theorem RdE.nil (T : TypeId) (lo : Nat) (w : World) : RdE T lo w (.slice none 0 0) [] :=
  ⟨by simp, none, 0, rfl, Nat.le_refl _, Nat.zero_le _, fun g hg => by simp [Value.ownBlock] at hg, fun h => absurd rfl h⟩
theorem RowE.rd (h : RowE T lo w v es) : RdE T lo w v es := by
  obtain ⟨hok, h1, h2⟩ := h
  rcases h2 with ⟨rfl, h3⟩ | ⟨g, cap, cur, rfl, hg, hh, h3, h4, h5, h6⟩
  · obtain rfl : es = [] := List.length_eq_zero_iff.1 h3
    exact RdE.nil T lo w
  · refine ⟨hok, _, cap, rfl, h3, h4, fun g' hg' => ?_, fun _ => ⟨g, 0, rfl, fun i e he j u hu => ?_⟩⟩
    · obtain rfl : g = g' := by simpa [Value.ownBlock] using hg'
      exact ⟨hg, cur, hh⟩
    · have hj : j < 68 := by
        have := (List.getElem?_eq_some_iff.1 hu).1
        rw [evL_length (hok e (List.mem_of_getElem? he)).len] at this
        exact this
      have hi : i < es.length := (List.getElem?_eq_some_iff.1 he).1
      have hown : w.ownsRow lo T 68 (.slice (some ⟨g, 0, none⟩) es.length cap) es.length (erow es) := ⟨h1, .inr ⟨g, cap, cur, rfl, hg, hh, h3, h4, h5, h6⟩⟩
      have hc := hown.cellAt (i * 68 + j) (by omega)
      rw [Nat.zero_add, hc, erow_at hok i e he j hj]
      exact hu
theorem RdE.at_ (h : RdE T lo w v es) {i : Nat} {e : EvR} (he : es[i]? = some e) : ∃ g off cap, v = .slice (some ⟨g, off, none⟩) es.length cap ∧ w.rangeAt g (off + i * 68) (evL e) ∧ EvOk e := by
  obtain ⟨hok, a, cap, rfl, h2, h3, h4, h5⟩ := h
  have hi : i < es.length := (List.getElem?_eq_some_iff.1 he).1
  obtain ⟨g, off, rfl, hc⟩ := h5 (fun e1 => by rw [e1] at hi; exact absurd hi (by simp))
  exact ⟨g, off, cap, rfl, hc i e he, hok e (List.mem_of_getElem? he)⟩
def cutV (a : Option Addr) (n cap : Nat) : Value := .slice (if cap = 1 then a else a.map (·.add 68)) (n - 1) (cap - 1)
theorem RdE.cut {a : Option Addr} {n cap : Nat} {e : EvR} (h : RdE T lo w (.slice a n cap) (e :: es)) : RdE T lo w (cutV a n cap) es := by
  obtain ⟨hok, a', cap', hv, h2, h3, h4, h5⟩ := h
  obtain ⟨rfl, rfl, rfl⟩ : a = a' ∧ n = (e :: es).length ∧ cap = cap' := by simpa using hv
  obtain ⟨g, off, rfl, hc⟩ := h5 (by simp)
  have hadd : (⟨g, off, none⟩ : Addr).add 68 = ⟨g, off + 68, none⟩ := Addr.add_mid g off 68
  have hl : (e :: es).length = es.length + 1 := rfl
  refine ⟨fun x hx => hok x (by simp [hx]), _, cap - 1, rfl, by omega, by omega, fun g' hg' => ?_, fun hne => ?_⟩
  · have : g' = g := by
      unfold cutV at hg'
      by_cases hc1 : cap = 1
      · rw [if_pos hc1] at hg'; simpa [Value.ownBlock, eq_comm] using hg'
      · rw [if_neg hc1, Option.map_some, hadd] at hg'; simpa [Value.ownBlock, eq_comm] using hg'
    subst this
    exact h4 g' rfl
  · have h0 : 0 < es.length := List.length_pos_iff.2 hne
    rw [if_neg (by omega), Option.map_some, hadd]
    refine ⟨g, off + 68, rfl, fun i x hx => ?_⟩
    have h6 := hc (i + 1) x (by rw [List.getElem?_cons_succ]; exact hx)
    rwa [show off + (i + 1) * 68 = off + 68 + i * 68 by omega] at h6
end
section
variable {P : Program} {w : World} {ops : Array Oper} {rest : List Oper} {o : Oper} {a : Act} {Q : Exit → Act → World → Prop}
theorem exec_slice1 {S E : TypeId} {sz : Nat} (T : ElK P S E sz) (x lo : Operand) (ho : o.op = .slice S x (some lo) none none) (ad : Option Addr) (len cap : Nat) (hx : a.eval x = .slice ad len cap) (hl : a.eval lo = .int .i64 1) (h : 1 ≤ len) (h2 : len ≤ cap) :
    (execOp a.eval o).run P w = .ok (.value (.slice (if cap = 1 then ad else ad.map (·.add sz)) (len - 1) (cap - 1))) w := by
  obtain ⟨i0, z0, hi, hz0, hz1, hz2, hz3⟩ := T.info
  have hb : (0 : Int) ≤ 1 ∧ (1 : Int) ≤ len := by omega
  have hr : (Instr.slice S (.slice ad len cap) (some (.int .i64 1)) none none).run P w = .ok (.slice (if cap = 1 then ad else ad.map (·.add sz)) (len - 1) (cap - 1)) w := by
    simp [Instr.slice, Instr.sliceBounds, Instr.sliceBound, run_underlying T.und, asIntOf, sizeOf, typeInfo, hi, hz1, hb]
  have hs : (Instr.sliceAt S (.slice ad len cap) (some (.int .i64 1)) none none).run P w = .ok (.slice (if cap = 1 then ad else ad.map (·.add sz)) (len - 1) (cap - 1)) w := by
    unfold Instr.sliceAt
    rw [Sem.run_bind, run_underlying T.und]
    exact hr
  unfold execOp
  simp only [ho, hx, hl, Option.map_some, Option.map_none, Sem.run_bind, hs, Result.andThen_ok, Sem.run_pure]
theorem wpl_load_ev (hw : Region.wanted o (yielded ops a.tmps) = true) (ty : TypeId) (x : Operand) (ho : o.op = .load ty x) (b i : Nat) (hx : a.eval x = .pointer (some ⟨b, i, none⟩)) (e : EvR) (d : TypeDesc) (hc : w.rangeAt b i (evL e))
    (hu : P.underlying ty = some d) (hd : d.isRow = true) (hi : (P.info? ty).map (·.size) = some (evL e).length)
    (h : wpList P ops Q rest (a.put o.dst (.agg (evA e))) w) : wpList P ops Q (o :: rest) a w := by
  unfold wpList
  rw [if_pos hw]
  exact .inl (wp_load_mid ty x ho b i hx (evL e) d hc hu hd hi h)
theorem wpl_load_at (hw : Region.wanted o (yielded ops a.tmps) = true) (ty : TypeId) (x : Operand) (ho : o.op = .load ty x) (b i : Nat) (hx : a.eval x = .pointer (some ⟨b, i, none⟩)) (cs : Array Value) (d : TypeDesc) (hc : w.rangeAt b i cs.toList)
    (hu : P.underlying ty = some d) (hd : d.isRow = true) (hi : (P.info? ty).map (·.size) = some cs.size)
    (h : wpList P ops Q rest (a.put o.dst (.agg cs)) w) : wpList P ops Q (o :: rest) a w := by
  unfold wpList
  rw [if_pos hw]
  exact .inl (wp_load_mid ty x ho b i hx cs.toList d hc hu hd (by rw [hi, Array.length_toList]) h)
theorem wpl_store_at (hgd : o.guard = none) (ty : TypeId) (x y : Operand) (ho : o.op = .store ty x y) (g i : Nat) (cs : Array Value) (hx : a.eval x = .pointer (some ⟨g, i, none⟩)) (hy : a.eval y = .agg cs) (t : TypeId) (L : List Value) (hg : Blk w g t L.toArray) (hf : i + cs.size ≤ L.length)
    (hi : (P.info? ty).map (·.size) = some cs.size) (h1 : cs.all (·.oneCell') = true)
    (h : ∀ w', Blk w' g t (splice L i cs.toList).toArray → Kept (· = g) w w' → wpList P ops Q rest (a.put o.dst undef) w') : wpList P ops Q (o :: rest) a w := by
  refine wpList_store_mid hgd ty x y ho g i cs hx hy (blk_there hg i _ hf) hi h1 ?_
  exact h _ (blk_setCells cs.toList i w L hg (by simpa using hf)) (kept_setCells _ _ _ (Kept.refl _ _))
end
def d8L (d : R7d) (vz vc vh : Value) : List Value := [vz, .int .i64 d.size, .int .i64 d.opn, .int .i64 d.n, .bool d.down, vc, vh]
def d8A (d : R7d) (vz vc vh : Value) : Array Value := (d8L d vz vc vh).toArray
def d8Z : Array Value := #[.slice none 0 0, .int .i64 0, .int .i64 0, .int .i64 0, .bool false, .slice none 0 0, .slice none 0 0]
theorem Try.info8D : (Try.prog.info? 30).map (·.size) = some 7 := by kernel_rfl
theorem d8A_one (d : R7d) (a a' a'' : Option Addr) (n n' n'' c c' c'' : Nat) : (d8A d (.slice a n c) (.slice a' n' c') (.slice a'' n'' c'')).all (·.oneCell') = true := by
  simp [d8A, d8L, Value.oneCell']
theorem d8_dev {w : World} {X : Nat} {t : TypeId} {d : R7d} {vz vc vh : Value} (h : Blk w X t (d8A d vz vc vh)) : w.rangeAt X 0 (d7A d vz).toList := by
  intro j u hu
  have hj : j < 5 := by
    have := (List.getElem?_eq_some_iff.1 hu).1
    exact this
  rw [Nat.zero_add, h.cell]
  match j, hj with
  | 0, _ => exact hu
  | 1, _ => exact hu
  | 2, _ => exact hu
  | 3, _ => exact hu
  | 4, _ => exact hu
end Go.Proofs.Ytajkajgnjcnolaa

