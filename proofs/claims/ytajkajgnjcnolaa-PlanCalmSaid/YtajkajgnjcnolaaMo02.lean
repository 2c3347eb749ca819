import Derived.Test.YtajkajgnjcnolaaMo01
import Derived.Maps.OwnSet
import Derived.WalkKit
import Derived.WalkSpells
import Derived.WalkLawsBesides
import Derived.Lib.Hide
import Derived.Laws.BitsAllLaws
import Derived.Laws.CopyOwn
import Derived.Deep.QuietTactic
import Derived.BigQuiet
import Derived.Lib.SlBytesConst
import Derived.OpenShut
import Derived.Laws.AppendOwnNone
import Derived.Deep.MidRow
import Derived.Deep.RegionHeld3
import Derived.Deep.DeepCutAuto
import Derived.Laws.StructEq
import Derived.ChangeKeysEq
import Derived.ChangeSame
import Derived.WideShapes
import Derived.Deep.Slices
import Derived.OrdersHeld
import Derived.Deep.RegionHeld
namespace Go.Proofs.Ytajkajgnjcnolaa
open Go.RowKit Go.Maps Go.MapKept Go.ChangeMaps
set_option linter.unusedVariables false
set_option linter.unnecessarySimpa false
set_option linter.unusedSimpArgs false
section
variable {κ ε : Type}
def MapF (P : Program) (k : TypeId) (kv : κ → Value) (el : ε → Value) (w : World) (b n : Nat) (f : κ → Option ε) : Prop :=
  ∃ es clock, w.heap[b]? = some (.map es clock) ∧ es.size ≤ n ∧ (∀ e ∈ es.toList, ∃ l, keyOf P k e.key = some l) ∧ es.toList.Pairwise (fun x y => x.key ≠ y.key) ∧
    (∀ e ∈ es.toList, ∃ x y, e.key = kv x ∧ e.val = el y ∧ f x = some y) ∧ ∀ x, (∀ e ∈ es.toList, e.key ≠ kv x) → f x = none
variable {P : Program} {k : TypeId} {kv : κ → Value} {el : ε → Value} {w w' : World} {b n : Nat} {f f' : κ → Option ε}
theorem MapF.made (P : Program) (k : TypeId) (kv : κ → Value) (el : ε → Value) (w : World) : MapF P k kv el (w.alloc (.map #[] 0)) w.heap.size 0 (fun _ => none) :=
  ⟨#[], 0, (MapKept.heap_alloc w _).1, Nat.le_refl _, by simp, by simp, by simp, fun _ _ => rfl⟩
theorem MapF.lt (h : MapF P k kv el w b n f) : b < w.heap.size := by
  obtain ⟨es, clock, hb, _⟩ := h
  exact (Array.getElem?_eq_some_iff.1 hb).1
theorem MapF.kept {S : Nat → Prop} (h : MapF P k kv el w b n f) (hk : Kept S w w') (hn : ¬ S b) : MapF P k kv el w' b n f := by
  have hlt := h.lt
  obtain ⟨es, clock, hb, r⟩ := h
  exact ⟨es, clock, (hk.block b hlt hn).trans hb, r⟩
theorem MapF.below (h : MapF P k kv el w b n f) (hb : Below w.heap.size w w') : MapF P k kv el w' b n f := h.kept (Kept.of_below (S := fun _ => False) hb) (fun h => h)
theorem MapF.mono (h : MapF P k kv el w b n f) {n' : Nat} (hn : n ≤ n') : MapF P k kv el w b n' f := by
  obtain ⟨es, clock, hb, hs, r⟩ := h
  exact ⟨es, clock, hb, Nat.le_trans hs hn, r⟩
theorem MapF.notblk {g : Nat} {t : TypeId} {cs : Array Value} (h : MapF P k kv el w b n f) (hg : Blk w g t cs) : g ≠ b := by
  rintro rfl
  obtain ⟨es, clock, hb, _⟩ := h
  have h2 : w.heap[g]? = some (.cells cs t (0, 0)) := hg
  rw [hb] at h2
  cases h2
theorem MapF.notrow {lo sz m g : Nat} {E : TypeId} {v : Value} {xs : List Value} (h : MapF P k kv el w b n f) (hr : w.ownsRow lo E sz v m xs) (hg : v.ownBlock = some g) : g ≠ b := by
  rcases hr.2 with ⟨rfl, _⟩ | ⟨g', cap, cur, rfl, _, hh, _⟩
  · simp [Value.ownBlock] at hg
  · obtain rfl : g' = g := by simpa [Value.ownBlock] using hg
    exact h.notblk (g := g') (t := E) (cs := cur) hh
theorem kept_setBlock {es es' : Array MapEntry} {clock clock' : Nat} (hb : w.heap[b]? = some (.map es clock)) : Kept (· = b) w (setBlock w b (.map es' clock')) :=
  ⟨rfl, rfl, rfl, by simp [setBlock], fun i _ hi => heap_setBlock_other hb _ hi⟩
theorem MapF.fnd (K : Keyed P k) (hinj : ∀ x y, kv x = kv y → x = y) {es : Array MapEntry} (h1 : ∀ e ∈ es.toList, ∃ l, keyOf P k e.key = some l) (h3 : ∀ e ∈ es.toList, ∃ x y, e.key = kv x ∧ e.val = el y ∧ f x = some y) (h4 : ∀ x, (∀ e ∈ es.toList, e.key ≠ kv x) → f x = none) {x : κ} {l : Lit} (hx : keyOf P k (kv x) = some l) :
    ((Instr.findKey k (kv x) es.toList).run P w = .ok none w ∧ f x = none ∧ ∀ e ∈ es.toList, e.key ≠ kv x) ∨
    ∃ j e y, (Instr.findKey k (kv x) es.toList).run P w = .ok (some (j, e.val)) w ∧ es.toList[j]? = some e ∧ e.key = kv x ∧ e.val = el y ∧ f x = some y := by
  rcases K.find w hx es.toList h1 with ⟨r, hn⟩ | ⟨j, e, r, hj, he⟩
  · exact .inl ⟨r, h4 x hn, hn⟩
  · obtain ⟨x', y, e1, e2, e3⟩ := h3 e (List.mem_of_getElem? hj)
    obtain rfl : x' = x := hinj _ _ (e1.symm.trans he)
    exact .inr ⟨j, e, y, r, hj, he, e2, e3⟩
theorem MapF.look {t e : TypeId} (h : MapF P k kv el w b n f) (K : Keyed P k) (hinj : ∀ x y, kv x = kv y → x = y) (ht : P.underlying t = some (.map k e)) {z : Value} (hz : (zeroValue e).run P w = .ok z w) (c : Bool) {x : κ} {l : Lit} (hx : keyOf P k (kv x) = some l) :
    (Instr.lookup t (.map (some b)) (kv x) c).run P w = .ok (if c then .tuple #[((f x).map el).getD z, .bool (f x).isSome] else ((f x).map el).getD z) w := by
  obtain ⟨es, clock, hb, hs, h1, h2, h3, h4⟩ := h
  rcases MapF.fnd (w := w) K hinj h1 h3 h4 hx with ⟨r, hf, _⟩ | ⟨j, e, y, r, _, _, hv, hf⟩
  · simp [Instr.lookup, run_underlying ht, MapKept.run_getObj_map hb, K.check w _ hx, r, hz, Result.andThen, hf]
  · simp [Instr.lookup, run_underlying ht, MapKept.run_getObj_map hb, K.check w _ hx, r, Result.andThen, hf, hv]
theorem MapF.store {t e : TypeId} (h : MapF P k kv el w b n f) (K : Keyed P k) (hinj : ∀ x y, kv x = kv y → x = y) (ht : P.underlying t = some (.map k e)) {x : κ} {y : ε} {l : Lit} (hx : keyOf P k (kv x) = some l) (hf : f' x = some y) (ho : ∀ x', x' ≠ x → f' x' = f x') :
    ∃ w', (Instr.mapUpdate t (.map (some b)) (kv x) (el y)).run P w = .ok () w' ∧ MapF P k kv el w' b (n + 1) f' ∧ Kept (· = b) w w' := by
  obtain ⟨es, clock, hb, hs, h1, h2, h3, h4⟩ := h
  rcases MapF.fnd (w := w) K hinj h1 h3 h4 hx with ⟨r, hf0, hno⟩ | ⟨j, e0, y0, r, hj, hk, hv, hf0⟩
  · refine ⟨setBlock w b (.map (es.push ⟨kv x, el y, clock⟩) (clock + 1)), ?_, ⟨_, _, heap_setBlock_same hb _, by simp; omega, ?_, ?_, ?_, ?_⟩, kept_setBlock hb⟩
    · simp [Instr.mapUpdate, run_underlying ht, MapKept.run_getObj_map hb, K.check w false hx, r, MapKept.run_setObj_map _ hb, Result.andThen, setBlock]
    · intro e he
      rw [Array.toList_push] at he
      rcases List.mem_append.1 he with h | h
      · exact h1 e h
      · obtain rfl := List.mem_singleton.1 h
        exact ⟨l, hx⟩
    · rw [Array.toList_push, List.pairwise_append]
      refine ⟨h2, by simp, fun a ha c hc => ?_⟩
      obtain rfl := List.mem_singleton.1 hc
      exact hno a ha
    · intro e he
      rw [Array.toList_push] at he
      rcases List.mem_append.1 he with h | h
      · obtain ⟨x', y', e1, e2, e3⟩ := h3 e h
        have hne : x' ≠ x := fun e4 => hno e h (by rw [e1, e4])
        exact ⟨x', y', e1, e2, by rw [ho _ hne]; exact e3⟩
      · obtain rfl := List.mem_singleton.1 h
        exact ⟨x, y, rfl, rfl, hf⟩
    · intro x' hx'
      have hne : x' ≠ x := fun e4 => hx' ⟨kv x, el y, clock⟩ (by simp) (by rw [e4])
      rw [ho _ hne]
      exact h4 x' (fun e he => hx' e (by simp [he]))
  · have hjl : j < es.toList.length := (List.getElem?_eq_some_iff.1 hj).1
    have hja : es[j]? = some e0 := by simpa using hj
    have hlist : (es.modify j (fun e' => { e' with key := kv x, val := el y })).toList = es.toList.set j { e0 with key := kv x, val := el y } := by rw [Array.toList_modify, modify_eq_set _ _ _ _ hj]
    have hother : ∀ i e, es.toList[i]? = some e → i ≠ j → e.key ≠ kv x := fun i e hi hij hke => by
      have hil := (List.getElem?_eq_some_iff.1 hi).1
      have p := List.pairwise_iff_getElem.1 h2
      rcases Nat.lt_or_gt_of_ne hij with hlt | hlt
      · have := p i j hil hjl hlt
        rw [(List.getElem?_eq_some_iff.1 hi).2, (List.getElem?_eq_some_iff.1 hj).2] at this
        exact this (hke.trans hk.symm)
      · have := p j i hjl hil hlt
        rw [(List.getElem?_eq_some_iff.1 hi).2, (List.getElem?_eq_some_iff.1 hj).2] at this
        exact this (hk.trans hke.symm)
    refine ⟨setBlock w b (.map (es.modify j (fun e' => { e' with key := kv x, val := el y })) clock), ?_, ⟨_, _, heap_setBlock_same hb _, by simp; omega, ?_, ?_, ?_, ?_⟩, kept_setBlock hb⟩
    · simp [Instr.mapUpdate, run_underlying ht, MapKept.run_getObj_map hb, K.check w false hx, r, hja, hk, K.stays w hx, MapKept.run_setObj_map _ hb, Result.andThen, setBlock]
    · intro e he
      rw [hlist] at he
      rcases List.mem_or_eq_of_mem_set he with h | rfl
      · exact h1 e h
      · exact ⟨l, hx⟩
    · rw [hlist, List.pairwise_iff_getElem]
      intro i i' hi hi' hlt
      rw [List.length_set] at hi hi'
      have p := List.pairwise_iff_getElem.1 h2 i i' hi hi' hlt
      rw [List.getElem_set, List.getElem_set]
      split
      · rename_i e1
        subst e1
        rw [if_neg (by omega)]
        have h5 := (List.getElem?_eq_some_iff.1 hj).2
        rw [h5, hk] at p
        exact p
      · split
        · rename_i e1 e2
          subst e2
          have h5 := (List.getElem?_eq_some_iff.1 hj).2
          rw [h5, hk] at p
          exact p
        · exact p
    · intro e he
      rw [hlist] at he
      obtain ⟨i, hi⟩ := List.getElem?_of_mem he
      rw [List.getElem?_set] at hi
      split at hi
      · try rw [if_pos hjl] at hi
        injection hi with hi
        subst hi
        exact ⟨x, y, rfl, rfl, hf⟩
      · rename_i hij
        obtain ⟨x', y', e1, e2, e3⟩ := h3 e (List.mem_of_getElem? hi)
        have hne : x' ≠ x := fun e4 => hother i e hi (fun e5 => hij e5.symm) (by rw [e1, e4])
        exact ⟨x', y', e1, e2, by rw [ho _ hne]; exact e3⟩
    · intro x' hx'
      rw [hlist] at hx'
      have hne : x' ≠ x := fun e4 => hx' { e0 with key := kv x, val := el y } (List.mem_iff_getElem.2 ⟨j, by simpa using hjl, by simp⟩) (by rw [e4])
      rw [ho _ hne]
      refine h4 x' (fun e he hke => ?_)
      obtain ⟨i, hi⟩ := List.getElem?_of_mem he
      by_cases hij : i = j
      · subst hij
        rw [hj] at hi
        injection hi with hi
        subst hi
        exact hne (hinj _ _ (hke.symm.trans hk))
      · exact hx' e (List.mem_of_getElem? (by rw [List.getElem?_set_ne (fun e5 => hij e5.symm)]; exact hi)) hke
theorem MapF.drop {t e : TypeId} (h : MapF P k kv el w b n f) (K : Keyed P k) (hinj : ∀ x y, kv x = kv y → x = y) (ht : P.underlying t = some (.map k e)) {x : κ} {l : Lit} (hx : keyOf P k (kv x) = some l) (hf : f' x = none) (ho : ∀ x', x' ≠ x → f' x' = f x') (ty : TypeId) :
    ∃ w', (Builtin.delete_ #[t, k] ty #[.map (some b), kv x]).run P w = .ok (.tuple #[]) w' ∧ MapF P k kv el w' b n f' ∧ Kept (· = b) w w' := by
  obtain ⟨es, clock, hb, hs, h1, h2, h3, h4⟩ := h
  rcases MapF.fnd (w := w) K hinj h1 h3 h4 hx with ⟨r, hf0, hno⟩ | ⟨j, e0, y0, r, hj, hk, hv, hf0⟩
  · refine ⟨setBlock w b (.map es clock), ?_, ⟨_, _, heap_setBlock_same hb _, hs, h1, h2, ?_, ?_⟩, kept_setBlock hb⟩
    · simp [Builtin.delete_, run_underlying ht, MapKept.run_getObj_map hb, K.check w _ hx, r, MapKept.run_setObj_map _ hb, Result.andThen, setBlock]
    · intro e he
      obtain ⟨x', y', e1, e2, e3⟩ := h3 e he
      have hne : x' ≠ x := fun e4 => hno e he (by rw [e1, e4])
      exact ⟨x', y', e1, e2, by rw [ho _ hne]; exact e3⟩
    · intro x' hx'
      by_cases hne : x' = x
      · rw [hne]; exact hf
      · rw [ho _ hne]; exact h4 x' hx'
  · have hjl : j < es.toList.length := (List.getElem?_eq_some_iff.1 hj).1
    have hjs : j < es.size := by simpa using hjl
    have hsub : (es.eraseIdxIfInBounds j).toList = es.toList.eraseIdx j := by
      unfold Array.eraseIdxIfInBounds
      rw [dif_pos hjs]
      simp
    have hother : ∀ i e, es.toList[i]? = some e → i ≠ j → e.key ≠ kv x := fun i e hi hij hke => by
      have hil := (List.getElem?_eq_some_iff.1 hi).1
      have p := List.pairwise_iff_getElem.1 h2
      rcases Nat.lt_or_gt_of_ne hij with hlt | hlt
      · have := p i j hil hjl hlt
        rw [(List.getElem?_eq_some_iff.1 hi).2, (List.getElem?_eq_some_iff.1 hj).2] at this
        exact this (hke.trans hk.symm)
      · have := p j i hjl hil hlt
        rw [(List.getElem?_eq_some_iff.1 hi).2, (List.getElem?_eq_some_iff.1 hj).2] at this
        exact this (hk.trans hke.symm)
    refine ⟨setBlock w b (.map (es.eraseIdxIfInBounds j) clock), ?_, ⟨_, _, heap_setBlock_same hb _, Nat.le_trans (MapFrom.size_erase es j) hs, ?_, ?_, ?_, ?_⟩, kept_setBlock hb⟩
    · simp [Builtin.delete_, run_underlying ht, MapKept.run_getObj_map hb, K.check w _ hx, r, MapKept.run_setObj_map _ hb, Result.andThen, setBlock]
    · intro e he
      rw [hsub] at he
      exact h1 e ((List.eraseIdx_sublist _ _).subset he)
    · rw [hsub]
      exact h2.sublist (List.eraseIdx_sublist _ _)
    · intro e he
      rw [hsub] at he
      obtain ⟨i, hij, hi⟩ := List.mem_eraseIdx_iff_getElem?.1 he
      obtain ⟨x', y', e1, e2, e3⟩ := h3 e (List.mem_of_getElem? hi)
      have hne : x' ≠ x := fun e4 => hother i e hi hij (by rw [e1, e4])
      exact ⟨x', y', e1, e2, by rw [ho _ hne]; exact e3⟩
    · intro x' hx'
      by_cases hne : x' = x
      · rw [hne]; exact hf
      · rw [ho _ hne]
        refine h4 x' (fun e he hke => ?_)
        obtain ⟨i, hi⟩ := List.getElem?_of_mem he
        have hij : i ≠ j := fun e5 => by
          subst e5
          rw [hj] at hi
          injection hi with hi
          subst hi
          exact hne (hinj _ _ (hke.symm.trans hk))
        exact hx' e (by rw [hsub]; exact List.mem_eraseIdx_iff_getElem?.2 ⟨i, hij, hi⟩) hke
section
variable {ops : Array Oper} {rest : List Oper} {o : Oper} {a : Act} {Q : Exit → Act → World → Prop}
theorem exec_lookF {t e : TypeId} (K : Keyed P k) (hinj : ∀ x y, kv x = kv y → x = y) (ht : P.underlying t = some (.map k e)) {z : Value} (hz : (zeroValue e).run P w = .ok z w) (m v : Operand) (c : Bool) (hop : o.op = .lookup t m v c) (x : κ) {l : Lit} (hx : keyOf P k (kv x) = some l)
    (hm : a.eval m = .map (some b)) (hv : a.eval v = kv x) (h : MapF P k kv el w b n f) : (execOp a.eval o).run P w = .ok (.value (if c then .tuple #[((f x).map el).getD z, .bool (f x).isSome] else ((f x).map el).getD z)) w := by
  unfold execOp
  simp only [hop, hm, hv, Sem.run_bind, h.look K hinj ht hz c hx, Result.andThen_ok, Sem.run_pure]
theorem wpl_dropF {t e : TypeId} (hw : Region.wanted o (yielded ops a.tmps) = true) (K : Keyed P k) (hinj : ∀ x y, kv x = kv y → x = y) (ht : P.underlying t = some (.map k e)) (m v : Operand) (hop : o.op = .call { callee := .builtin .delete, args := #[m, v], argTypes := #[t, k] }) (x : κ) {l : Lit} (hx : keyOf P k (kv x) = some l)
    (hm : a.eval m = .map (some b)) (hv : a.eval v = kv x) (h : MapF P k kv el w b n f) (hf : f' x = none) (ho : ∀ x', x' ≠ x → f' x' = f x')
    (hK : ∀ w', MapF P k kv el w' b n f' → Kept (· = b) w w' → wpList P ops Q rest (a.put o.dst (.tuple #[])) w') : wpList P ops Q (o :: rest) a w := by
  unfold wpList
  rw [if_pos hw]
  refine .inl ?_
  obtain ⟨w', hrun, r1, r2⟩ := h.drop K hinj ht hx hf ho o.type
  unfold Oper.wp
  simp [execOp, hop, resolve, invoke, builtin, hm, hv, hrun, Result.andThen]
  exact hK w' r1 r2
end
end
end Go.Proofs.Ytajkajgnjcnolaa

namespace Go.Proofs.Ytajkajgnjcnolaa
open Go.RowKit
set_option linter.unusedVariables false
set_option linter.unnecessarySimpa false
set_option linter.unusedSimpArgs false
theorem Try.cellsI : Try.prog.cellsOf 3 = 1 := by kernel_rfl
section
variable {P : Program} (w : World)
theorem run_part_int {e : TypeId} {q : IntKind} (he : P.underlying e = some (.int q)) {xs : Array Value} {off : Nat} {v : Value} (hx : xs[off]? = some v) : (part e xs off).run P w = .ok v w := by
  simp [part, isAgg, run_underlying he, hx]
end
theorem run_field {P : Program} (w : World) (d : Nat) {xs ys : Array Value} {f : Field} {fs : List Field} {a b : Value} {r rest : Bool} (hn : f.name ≠ "_") (p1 : (part f.type xs f.offset).run P w = .ok a w) (p2 : (part f.type ys f.offset).run P w = .ok b w)
    (p3 : (Op.equalIn d f.type a b).run P w = .ok r w) (ih : (Op.eqFields d xs ys fs).run P w = .ok rest w) : (Op.eqFields d xs ys (f :: fs)).run P w = .ok (r && rest) w := by
  unfold Op.eqFields
  rw [if_pos hn]
  simp only [Sem.run_bind, p1, p2, p3, Result.andThen_ok]
  cases r
  · simp
  · simpa using ih
structure IntField (P : Program) (f : Field) (o : Nat) : Prop where
  name : f.name ≠ "_"
  ty : P.underlying f.type = some (.int .i64)
  off : f.offset = o
  cells : P.cellsOf f.type = 1
theorem run_field_int {P : Program} (w : World) (d : Nat) {xs ys : Array Value} {f : Field} {fs : List Field} {o : Nat} {a b : Int} {rest : Bool} (h : IntField P f o) (p1 : xs[o]? = some (.int .i64 a)) (p2 : ys[o]? = some (.int .i64 b))
    (ih : (Op.eqFields (d + 1) xs ys fs).run P w = .ok rest w) : (Op.eqFields (d + 1) xs ys (f :: fs)).run P w = .ok ((a == b) && rest) w := by
  obtain ⟨h1, h2, rfl, _⟩ := h
  exact run_field w (d + 1) h1 (run_part_int w h2 p1) (run_part_int w h2 p2) (run_equalIn_int w d f.type .i64 .i64 a b h2) ih
def IntFields (P : Program) : Nat → List Field → Prop
  | _, [] => True
  | j, f :: fs => IntField P f j ∧ IntFields P (j + 1) fs
theorem run_mix_fields {P : Program} (w : World) (d : Nat) {xs ys : Array Value} {rest : List Field} {r : Bool} {zs zs' : List Int} (hr : (Op.eqFields (d + 1) xs ys rest).run P w = .ok r w) :
    ∀ (fs : List Field) (j : Nat), IntFields P j fs → (∀ i, i < fs.length → xs[j + i]? = some (.int .i64 (zs.getD (j + i) 0)) ∧ ys[j + i]? = some (.int .i64 (zs'.getD (j + i) 0))) →
    (Op.eqFields (d + 1) xs ys (fs ++ rest)).run P w = .ok (decide (∀ i, i < fs.length → zs.getD (j + i) 0 = zs'.getD (j + i) 0) && r) w
  | [], j, _, _ => by simpa using hr
  | f :: fs, j, hI, hat => by
    obtain ⟨h1, h2⟩ := hI
    have a0 := hat 0 (by simp)
    have ih := run_mix_fields w d (zs := zs) (zs' := zs') hr fs (j + 1) h2 (fun i hi => by have := hat (i + 1) (by simpa using hi); rwa [show j + (i + 1) = j + 1 + i by omega] at this)
    rw [List.cons_append, run_field_int w d h1 a0.1 a0.2 ih]
    congr 1
    rw [← Bool.and_assoc]
    congr 1
    rw [Bool.eq_iff_iff]
    simp only [Bool.and_eq_true, beq_iff_eq, decide_eq_true_eq, List.length_cons]
    constructor
    · rintro ⟨h, h'⟩ i hi
      cases i with
      | zero => exact h
      | succ i => rw [show j + (i + 1) = j + 1 + i by omega]; exact h' i (by omega)
    · intro h
      refine ⟨h 0 (by omega), fun i hi => ?_⟩
      have := h (i + 1) (by omega)
      rwa [show j + (i + 1) = j + 1 + i by omega] at this
theorem ints_eq_of_getD {xs ys : List Int} {n : Nat} (hx : xs.length = n) (hy : ys.length = n) (h : ∀ i, i < n → xs.getD i 0 = ys.getD i 0) : xs = ys := by
  apply List.ext_getElem (by omega)
  intro i h1 h2
  have := h i (by omega)
  simpa [List.getD, h1, h2] using this
section
open Go.ChangeShapes Go.WideShapes
variable {H : Type} {enc : TypeId × Value → H} {P : Program} {w : World} {base : Nat} {spare : Nat → Bool} {held : Bool}
theorem trod_int_of {e : TypeId} {o n : Nat} {f : Field} {cs : List Value} {x : Option (DataW H × List MemPlace)} (h : IntField P f o) (hx : x.isSome = true)
    (ht : DataW.trod enc P w base spare held n f.type (List.take (P.cellsOf f.type) (List.drop f.offset cs)) = x) : ∃ z : Int, (cs.drop o).take 1 = [.int .i64 z] ∧ (Lit.int .i64 z).wf = true := by
  obtain ⟨y, rfl⟩ := Option.isSome_iff_exists.1 hx
  rw [h.cells, h.off] at ht
  obtain ⟨z, hz, _, hwf⟩ := DataW.trod_int h.ty ht
  exact ⟨z, hz, hwf⟩
theorem list_cut {l : List Value} {o : Nat} {v : Value} (hh : (l.drop o).take 1 = [v]) : l.drop o = v :: l.drop (o + 1) := by
  by_cases ho : o < l.length
  · rw [List.drop_eq_getElem_cons ho] at hh
    simp only [List.take_succ_cons, List.take_zero, List.cons.injEq, and_true] at hh
    rw [List.drop_eq_getElem_cons ho, hh]
  · rw [List.drop_of_length_le (by omega)] at hh; simp at hh
theorem open_intFields {n : Nat} {cs : List Value} : ∀ (fs : List Field) (j : Nat), IntFields P j fs → (∀ f ∈ fs, (DataW.trod enc P w base spare held n f.type ((cs.drop f.offset).take (P.cellsOf f.type))).isSome = true) →
    ∃ zs : List Int, zs.length = fs.length ∧ (∀ z ∈ zs, (Lit.int .i64 z).wf = true) ∧ cs.drop j = zs.map (fun z => Value.int .i64 z) ++ cs.drop (j + fs.length)
  | [], j, _, _ => ⟨[], rfl, by simp, by simp⟩
  | f :: fs, j, hI, hs => by
    obtain ⟨h1, h2⟩ := hI
    obtain ⟨z, hz, hw⟩ := trod_int_of (e := f.type) h1 (hs f (by simp)) rfl
    obtain ⟨zs, hl, hwf, hd⟩ := open_intFields fs (j + 1) h2 (fun f' hf' => hs f' (by simp [hf']))
    refine ⟨z :: zs, by simp [hl], fun x hx => ?_, ?_⟩
    · rcases List.mem_cons.1 hx with rfl | hx
      · exact hw
      · exact hwf x hx
    · rw [list_cut hz, hd]
      simp [Nat.add_comm, Nat.add_left_comm]
end
section
open Go.ChangeShapes Go.WideShapes
variable {H : Type} {enc : TypeId × Value → H} {P : Program} {w : World} {base : Nat} {spare : Nat → Bool} {held : Bool}
end
end Go.Proofs.Ytajkajgnjcnolaa

namespace Go.Proofs.Ytajkajgnjcnolaa
open Go.RowKit CrcM
set_option linter.unusedVariables false
set_option linter.unnecessarySimpa false
set_option linter.unusedSimpArgs false
end Go.Proofs.Ytajkajgnjcnolaa

namespace Go.Proofs.Ytajkajgnjcnolaa
open Go.RowKit CrcM
set_option linter.unusedVariables false
set_option linter.unnecessarySimpa false
set_option linter.unusedSimpArgs false
def PenSet (p : Nat) (v : Value) (k : Nat) : Prop := k = p ∨ some k = v.ownBlock
theorem PenSet.nil {p k : Nat} (h : PenSet p (.slice none 0 0) k) : k = p := by
  rcases h with h | h
  · exact h
  · cases h
end Go.Proofs.Ytajkajgnjcnolaa

namespace Go.Proofs.Ytajkajgnjcnolaa
open Go.RowKit CrcM
set_option linter.unusedVariables false
set_option linter.unnecessarySimpa false
set_option linter.unusedSimpArgs false
end Go.Proofs.Ytajkajgnjcnolaa

namespace Go.Proofs.Ytajkajgnjcnolaa
open Go.RowKit CrcM
set_option linter.unusedVariables false
set_option linter.unnecessarySimpa false
set_option linter.unusedSimpArgs false
end Go.Proofs.Ytajkajgnjcnolaa

namespace Go.Proofs.Ytajkajgnjcnolaa
open Go.RowKit CrcM
set_option linter.unusedVariables false
set_option linter.unnecessarySimpa false
set_option linter.unusedSimpArgs false
end Go.Proofs.Ytajkajgnjcnolaa

namespace Go.Proofs.Ytajkajgnjcnolaa
open Go.RowKit CrcM
set_option linter.unusedVariables false
set_option linter.unnecessarySimpa false
set_option linter.unusedSimpArgs false
end Go.Proofs.Ytajkajgnjcnolaa

namespace Go.Proofs.Ytajkajgnjcnolaa
open Go.RowKit CrcM
set_option linter.unusedVariables false
set_option linter.unnecessarySimpa false
set_option linter.unusedSimpArgs false
end Go.Proofs.Ytajkajgnjcnolaa

namespace Go.Proofs.Ytajkajgnjcnolaa
open Go.RowKit CrcM
set_option linter.unusedVariables false
set_option linter.unnecessarySimpa false
set_option linter.unusedSimpArgs false
end Go.Proofs.Ytajkajgnjcnolaa

namespace Go.Proofs.Ytajkajgnjcnolaa
open Go.RowKit CrcM
set_option linter.unusedVariables false
set_option linter.unnecessarySimpa false
set_option linter.unusedSimpArgs false
end Go.Proofs.Ytajkajgnjcnolaa

namespace Go.Proofs.Ytajkajgnjcnolaa
open Go.RowKit CrcM
set_option linter.unusedVariables false
set_option linter.unnecessarySimpa false
set_option linter.unusedSimpArgs false
end Go.Proofs.Ytajkajgnjcnolaa

namespace Go.Proofs.Ytajkajgnjcnolaa
open Go.RowKit CrcM
set_option linter.unusedVariables false
set_option linter.unnecessarySimpa false
set_option linter.unusedSimpArgs false
end Go.Proofs.Ytajkajgnjcnolaa

namespace Go.Proofs.Ytajkajgnjcnolaa
open Go.RowKit CrcM
set_option linter.unusedVariables false
set_option linter.unnecessarySimpa false
set_option linter.unusedSimpArgs false
def zx (xs ys : List Nat) (k : Nat) : List Nat := (List.range k).map fun i => xs.getD i 0 ^^^ ys.getD i 0
theorem zx_length (xs ys : List Nat) (k : Nat) : (zx xs ys k).length = k := by simp [zx]
theorem zx_lt {xs ys : List Nat} (hx : ∀ c ∈ xs, c < 256) (hy : ∀ c ∈ ys, c < 256) (k : Nat) : ∀ c ∈ zx xs ys k, c < 256 := by
  intro c hc; obtain ⟨i, _, rfl⟩ := List.mem_map.1 hc; exact Nat.xor_lt_two_pow (n := 8) (getD_lt hx i) (getD_lt hy i)
end Go.Proofs.Ytajkajgnjcnolaa

namespace Go.Proofs.Ytajkajgnjcnolaa
open Go.RowKit CrcM
set_option linter.unusedVariables false
set_option linter.unnecessarySimpa false
set_option linter.unusedSimpArgs false
structure FrR where
  k : Int
  z : Int
  o : Int
  e : Int
  s : Int
  b : List Nat
  deriving DecidableEq
theorem bA_one (bs : List Nat) : (bA bs).all (·.oneCell') = true := by
  simp only [bA, Array.all_eq_true_iff_forall_mem, List.mem_toArray]
  exact fun x hx => bvals_one _ x hx
section
variable {P : Program} (w : World)
theorem run_items_bytes (d : Nat) {e : TypeId} (he : P.underlying e = some (.int .u8)) (xs ys : List Nat) : ∀ is : List Nat, (∀ i ∈ is, i < xs.length ∧ i < ys.length) →
    (Op.eqItems (d + 1) e 1 (bA xs) (bA ys) is).run P w = .ok (decide (∀ i ∈ is, xs.getD i 0 = ys.getD i 0)) w
  | [], _ => by simp [Op.eqItems]
  | i :: is, h => by
    have hi := h i (by simp)
    have ih := run_items_bytes d he xs ys is (fun j hj => h j (by simp [hj]))
    have p1 := run_part_int (P := P) w he (bA_at xs i hi.1)
    have p2 := run_part_int (P := P) w he (bA_at ys i hi.2)
    have p3 := run_equalIn_int (P := P) w d e .u8 .u8 (xs.getD i 0 : Nat) (ys.getD i 0 : Nat) he
    simp only [Op.eqItems, Sem.run_bind, Nat.mul_one, p1, p2, p3, Result.andThen_ok]
    by_cases hc : xs.getD i 0 = ys.getD i 0
    · rw [hc]
      simp only [beq_self_eq_true, Bool.not_true, Bool.false_eq_true, if_false]
      rw [ih]
      congr 1
      rw [Bool.eq_iff_iff]
      simp only [decide_eq_true_eq, List.mem_cons, forall_eq_or_imp]
      exact ⟨fun hh => ⟨hc, hh⟩, fun hh => hh.2⟩
    · have : (((xs.getD i 0 : Nat) : Int) == ((ys.getD i 0 : Nat) : Int)) = false := by rw [beq_eq_false_iff_ne]; omega
      rw [this]
      simp only [Bool.not_false, if_true, Sem.run_pure]
      congr 1
      symm
      rw [decide_eq_false_iff_not]
      exact fun hh => hc (hh i (by simp))
theorem list_eq_of_getD {xs ys : List Nat} {n : Nat} (hx : xs.length = n) (hy : ys.length = n) (h : ∀ i, i < n → xs.getD i 0 = ys.getD i 0) : xs = ys := by
  apply List.ext_getElem (by omega)
  intro i h1 h2
  have := h i (by omega)
  simpa [List.getD, h1, h2] using this
theorem run_equal_bytes (d : Nat) {t e : TypeId} {n : Nat} (hu : P.underlying t = some (.array n e)) (he : P.underlying e = some (.int .u8)) (hc : P.cellsOf e = 1) (xs ys : List Nat) (hx : xs.length = n) (hy : ys.length = n) :
    (Op.equalIn (d + 2) t (.agg (bA xs)) (.agg (bA ys))).run P w = .ok (decide (xs = ys)) w := by
  obtain ⟨i, hi⟩ := info_of_underlying he
  rw [run_equalIn_array w (d + 1) (bA xs) (bA ys) hu hi, hc, run_items_bytes w d he xs ys (List.range n) (fun i hi => by rw [hx, hy]; simpa using hi)]
  congr 1
  rw [Bool.eq_iff_iff]
  simp only [decide_eq_true_eq, List.mem_range]
  exact ⟨fun h => list_eq_of_getD hx hy h, fun h => by rw [h]; simp⟩
end
theorem Try.cellsByte : Try.prog.cellsOf 5 = 1 := by kernel_rfl
theorem Try.cellsSec : Try.prog.cellsOf 34 = 64 := by kernel_rfl
theorem infoSec : (Try.prog.info? 34).map (·.size) = some 64 := by kernel_rfl
theorem info64 : (Try.prog.info? 33).map (·.size) = some 64 := by kernel_rfl
theorem info_sec {bs : List Nat} (h : bs.length = 64) : (Try.prog.info? 34).map (·.size) = some (bA bs).size := by rw [bA_size, h]; exact infoSec
theorem info_64 {bs : List Nat} (h : bs.length = 64) : (Try.prog.info? 33).map (·.size) = some (bA bs).size := by rw [bA_size, h]; exact info64
structure BytesType (P : Program) (t : TypeId) (n : Nat) : Prop where
  under : ∃ e : TypeId, P.underlying t = some (.array n e) ∧ P.underlying e = some (.int .u8) ∧ P.cellsOf e = 1
  cells : P.cellsOf t = n
  guard : P.eqGuardType P.depth t = false
theorem run_eql_sector {P : Program} {t : TypeId} {n : Nat} (T : BytesType P t n) (xs ys : List Nat) (hx : xs.length = n) (hy : ys.length = n) (w : World) :
    (binOp .eql t (.agg (bA xs)) (.agg (bA ys))).run P w = .ok (.bool (decide (xs = ys))) w := by
  obtain ⟨e, h1, h2, h3⟩ := T.under
  rw [run_eql_struct, run_equal_bytes w 9998 h1 h2 h3 xs ys hx hy]; rfl
theorem tySec : BytesType Try.prog 34 64 := ⟨⟨5, Try.underlying34, Try.underlying5, Try.cellsByte⟩, Try.cellsSec, by kernel_rfl⟩
theorem ty64 : BytesType Try.prog 33 64 := ⟨⟨5, Try.underlying33, Try.underlying5, Try.cellsByte⟩, by kernel_rfl, by kernel_rfl⟩
section
open Go.ChangeShapes Go.WideShapes
variable {H : Type} {enc : TypeId × Value → H} {P : Program} {w : World} {base : Nat} {spare : Nat → Bool} {held : Bool}
theorem trod_bytes {t e : TypeId} {n fuel : Nat} {cs : List Value} {x : DataW H × List MemPlace} (hu : P.underlying t = some (.array n e)) (he : P.underlying e = some (.int .u8)) (hc : P.cellsOf e = 1) (hn : P.cellsOf t = n)
    (h : DataW.trod enc P w base spare held fuel t cs = some x) : ∃ bs : List Nat, cs = bvals bs ∧ bs.length = n ∧ ∀ c ∈ bs, c < 256 := by
  cases fuel with
  | zero => simp [DataW.trod] at h
  | succ m =>
    unfold DataW.trod at h
    rw [hu] at h
    simp only [hc, hn] at h
    split at h
    · rename_i hl
      simp only [Option.map_eq_some_iff] at h
      obtain ⟨xs, hm, _⟩ := h
      have hlen := mapM_some_length hm
      have hat := mapM_some_get hm
      have hcell : ∀ i, i < n → ∃ z : Nat, cs[i]? = some (.int .u8 (z : Nat)) ∧ z < 256 := fun i hi => by
        have h1 := hat i i (by simp [hi])
        rw [List.getElem?_eq_getElem (show i < xs.length by rw [hlen]; simpa using hi)] at h1
        obtain ⟨z, hz, _, hwf⟩ := DataW.trod_int he h1
        rw [Nat.mul_one, List.drop_eq_getElem_cons (by omega), List.take_succ_cons] at hz
        simp only [List.take_zero, List.cons.injEq, and_true] at hz
        have hb := bounds_u8 hwf
        refine ⟨z.toNat, ?_, by omega⟩
        rw [List.getElem?_eq_getElem (by omega), hz, Int.toNat_of_nonneg hb.1]
      obtain ⟨f, hf⟩ := Go.Deep.choose_lt hcell
      refine ⟨(List.range n).map f, ?_, by simp, fun c hc => ?_⟩
      · apply List.ext_getElem?
        intro i
        by_cases hi : i < n
        · rw [(hf i hi).1]; simp [bvals, hi]
        · rw [List.getElem?_eq_none (by omega), List.getElem?_eq_none (by simp [bvals]; omega)]
      · obtain ⟨i, hi, rfl⟩ := List.mem_map.1 hc
        exact (hf i (by simpa using hi)).2
    · cases h
end
end Go.Proofs.Ytajkajgnjcnolaa

namespace Go.Proofs.Ytajkajgnjcnolaa
open Go.RowKit CrcM
set_option linter.unusedVariables false
set_option linter.unnecessarySimpa false
set_option linter.unusedSimpArgs false
def rightB (f : FrR) : Bool := wB f.k 1 5 && wB f.z 0 65535 && wB f.o 0 65535 && wB f.e 1 4294967295 && wB f.s 0 281474976710655
end Go.Proofs.Ytajkajgnjcnolaa

namespace Go.Proofs.Ytajkajgnjcnolaa
open Go.RowKit CrcM
set_option linter.unusedVariables false
set_option linter.unnecessarySimpa false
set_option linter.unusedSimpArgs false
section
variable {P : Program} {w : World} {ops : Array Oper} {rest : List Oper} {o : Oper} {a : Act} {Q : Exit → Act → World → Prop}
end
def ahead (f : FrR) : List Nat := leb 1 f.k.toNat ++ leb 1 1 ++ leb 2 f.z.toNat ++ leb 2 f.o.toNat ++ leb 4 f.e.toNat ++ leb 6 f.s.toNat ++ f.b
end Go.Proofs.Ytajkajgnjcnolaa

namespace Go.Proofs.Ytajkajgnjcnolaa
open Go.RowKit CrcM
set_option linter.unusedVariables false
set_option linter.unnecessarySimpa false
set_option linter.unusedSimpArgs false
end Go.Proofs.Ytajkajgnjcnolaa

namespace Go.Proofs.Ytajkajgnjcnolaa
open Go.RowKit CrcM
set_option linter.unusedVariables false
set_option linter.unnecessarySimpa false
set_option linter.unusedSimpArgs false
theorem zero_sec (w : World) : (zeroValue 34).run Try.prog w = .ok (.agg (bA (zeros 64))) w := by kernel_rfl
end Go.Proofs.Ytajkajgnjcnolaa

namespace Go.Proofs.Ytajkajgnjcnolaa
open Go.RowKit CrcM
set_option linter.unusedVariables false
set_option linter.unnecessarySimpa false
set_option linter.unusedSimpArgs false
def rd (bs : List Nat) : FrR := ⟨(num ((bs.drop 0).take 1) : Nat), (num ((bs.drop 2).take 2) : Nat), (num ((bs.drop 4).take 2) : Nat), (num ((bs.drop 6).take 4) : Nat), (num ((bs.drop 10).take 6) : Nat), (bs.drop 16).take 44⟩
end Go.Proofs.Ytajkajgnjcnolaa

namespace Go.Proofs.Ytajkajgnjcnolaa
open Go.RowKit CrcM
set_option linter.unusedVariables false
set_option linter.unnecessarySimpa false
set_option linter.unusedSimpArgs false
end Go.Proofs.Ytajkajgnjcnolaa

namespace Go.Proofs.Ytajkajgnjcnolaa
open Go.RowKit CrcM
set_option linter.unusedVariables false
set_option linter.unnecessarySimpa false
set_option linter.unusedSimpArgs false
def xl (xs ys : List Nat) (k : Nat) : List Nat := (List.range 64).map fun i => if i < k then xs.getD i 0 ^^^ ys.getD i 0 else xs.getD i 0
theorem xl_length (xs ys : List Nat) (k : Nat) : (xl xs ys k).length = 64 := by simp [xl]
theorem xl_at (xs ys : List Nat) (k : Nat) (h : k < 64) : (xl xs ys k).getD k 0 = xs.getD k 0 := by simp [xl, List.getD, h]
theorem xl_zero (xs ys : List Nat) (h : xs.length = 64) : xl xs ys 0 = xs := by
  apply list_eq_of_getD (n := 64) (xl_length _ _ _) h
  intro i hi
  simp [xl, List.getD, hi]
theorem xl_full (xs ys : List Nat) : xl xs ys 64 = zx xs ys 64 := by
  unfold xl zx
  apply List.map_congr_left
  intro i hi
  rw [if_pos (by simpa using hi)]
theorem xl_set (xs ys : List Nat) (k : Nat) (h : k < 64) : (xl xs ys k).set k (xs.getD k 0 ^^^ ys.getD k 0) = xl xs ys (k + 1) := by
  apply list_eq_of_getD (n := 64) (by rw [List.length_set, xl_length]) (xl_length _ _ _)
  intro i hi
  by_cases hk : k = i
  · subst hk
    simp [xl, List.getD, hi]
  · simp only [xl, List.getD, List.getElem?_set, if_neg hk]
    simp only [List.getElem?_map, List.getElem?_range hi, Option.map_some, Option.getD_some]
    by_cases h1 : i < k
    · rw [if_pos h1, if_pos (by omega)]
    · rw [if_neg h1, if_neg (by omega)]
theorem run_index_sec (w : World) (ys : List Nat) (k : Nat) (hk : k < 64) (hy : ys.length = 64) :
    (Instr.index 34 (.agg (bA ys)) (.int .i64 k)).run Try.prog w = .ok (.int .u8 (ys.getD k 0 : Nat)) w := by
  obtain ⟨i, hi⟩ := info_of_underlying (P := Try.prog) Try.underlying5
  have hs := run_sizeOf (P := Try.prog) w hi
  rw [Try.cellsByte] at hs
  have p1 := run_part_int (P := Try.prog) w Try.underlying5 (bA_at ys k (by omega))
  have hb : (0 : Int) ≤ k ∧ (k : Int) < (64 : Nat) := by omega
  simp only [Instr.index, asIntOf, Sem.run_bind, Sem.run_pure, Result.andThen_ok, run_underlying Try.underlying34, if_pos hb, hs, Int.toNat_natCast, Nat.mul_one, p1]
set_option maxRecDepth 100000 in
set_option maxHeartbeats 1000000 in
theorem xor_any (xs ys : List Nat) (w : World) (hx : xs.length = 64) (hy : ys.length = 64) (hxb : ∀ c ∈ xs, c < 256) (hyb : ∀ c ∈ ys, c < 256) :
    Calls Try.prog 16 #[.agg (bA xs), .agg (bA ys)] w fun e w' => e = .returned (.agg (bA (zx xs ys 64))) ∧ Below w.heap.size w w' := by
  have HX := Lib.hid hx
  have HY := Lib.hid hy
  have HXb := Lib.hid hxb
  have HYb := Lib.hid hyb
  have hz := zero_sec
  have hX : Blk (((w.alloc (Obj.cells (bA xs) 34)).alloc (Obj.cells (bA ys) 34)).alloc (Obj.cells (bA (zeros 64)) 34)) w.heap.size 34 (bA xs) := Blk.alloc (Blk.alloc (Blk.new w 34 (bA xs)) _) _
  have hY : Blk (((w.alloc (Obj.cells (bA xs) 34)).alloc (Obj.cells (bA ys) 34)).alloc (Obj.cells (bA (zeros 64)) 34)) (w.heap.size + 1) 34 (bA ys) := by
    have h := Blk.alloc (Blk.new (w.alloc (Obj.cells (bA xs) 34)) 34 (bA ys)) (Obj.cells (bA (zeros 64)) 34)
    rwa [show (w.alloc (Obj.cells (bA xs) 34)).heap.size = w.heap.size + 1 by simp] at h
  have hO : Blk (((w.alloc (Obj.cells (bA xs) 34)).alloc (Obj.cells (bA ys) 34)).alloc (Obj.cells (bA (zeros 64)) 34)) (w.heap.size + 2) 34 (bA (zeros 64)) := by
    have h := Blk.new ((w.alloc (Obj.cells (bA xs) 34)).alloc (Obj.cells (bA ys) 34)) 34 (bA (zeros 64))
    rwa [show ((w.alloc (Obj.cells (bA xs) 34)).alloc (Obj.cells (bA ys) 34)).heap.size = w.heap.size + 2 by simp] at h
  have hB : Below w.heap.size w (((w.alloc (Obj.cells (bA xs) 34)).alloc (Obj.cells (bA ys) 34)).alloc (Obj.cells (bA (zeros 64)) 34)) := bthen (below_alloc _ _) (bthen (below_alloc _ _) (below_alloc _ _))
  have HX0 := Lib.hid hX
  have HY0 := Lib.hid hY
  have HO0 := Lib.hid hO
  have HB0 := Lib.hid hB
  clear hx hy hxb hyb hX hY hO hB
  go_enter Try.func16, Try.ntmps16
  go_wp2_with (first | (refine wpl_load rfl _ rfl (w.heap.size + 1) rfl _ _ _ HY0.out Try.underlying34 rfl (info_sec HY.out) ?_; go_frame))
  clear hz
  generalize (((w.alloc (Obj.cells (bA xs) 34)).alloc (Obj.cells (bA ys) 34)).alloc (Obj.cells (bA (zeros 64)) 34)) = w0 at *
  go_loopw [8] (fun i wr => ∃ k : Nat, k ≤ 64 ∧ i = .int .i64 k ∧ Blk wr w.heap.size 34 (bA (xl xs ys k)) ∧ Kept (· = w.heap.size) w0 wr) (fun i _ => 64 - (intOf i).toNat)
  case atStart => exact ⟨0, Nat.zero_le _, rfl, by rw [xl_zero _ _ HX.out]; exact HX0.out, Kept.refl _ _⟩
  case round =>
    obtain ⟨k, hk, rfl, hg, hkp⟩ := hrel
    have Hg := Lib.hid hg
    have Hk := Lib.hid hkp
    clear hg hkp
    by_cases hlt : k < 64
    · have cx := (Hg.out.cell k).trans ((bA_at _ k (by rw [xl_length]; exact hlt)).trans (by rw [xl_at xs ys k hlt]))
      have fx := Hg.out.frozen k
      have cy := fun w => run_index_sec w ys k hlt HY.out
      have lx := getD_lt HXb.out k
      have ly := getD_lt HYb.out k
      have hxor := u8_xor_nat _ _ lx ly
      have hset := xl_set xs ys k hlt
      have hgs := Hg.out.set k (.int .u8 ((xs.getD k 0 ^^^ ys.getD k 0 : Nat)))
      rw [bA_set, hset] at hgs
      have Hgs := Lib.hid hgs
      clear hset hgs
      generalize xs.getD k 0 ^^^ ys.getD k 0 = v at *
      generalize xs.getD k 0 = x at *
      generalize ys.getD k 0 = y at *
      have hd : decide ((k : Int) < 64) = true := by simp; omega
      go_wp2_with fail
      go_roundw
      case rel => exact ⟨k + 1, by omega, by go_num, Hgs.out, Hk.out.setCell rfl _⟩
      case measure => simp [intOf]; omega
    · obtain rfl : k = 64 := by omega
      have Hg2 : Hid (Blk wr w.heap.size 34 (bA (zx xs ys 64))) := Lib.hid (by rw [← xl_full]; exact Hg.out)
      have HO2 := Lib.hid (HO0.out.kept Hk.out (by omega))
      have HB2 := Lib.hid (bkept HB0.out (Nat.le_refl _) Hk.out (fun i hi h => by omega))
      clear Hg Hk
      go_wp2_with (first | (refine wpl_load rfl _ rfl (w.heap.size) rfl _ _ _ Hg2.out Try.underlying34 rfl (info_sec (zx_length xs ys 64)) ?_; go_frame) | (refine wpl_store rfl _ _ rfl (w.heap.size + 2) (bA (zx xs ys 64)) rfl rfl _ _ HO2.out (info_sec (zx_length xs ys 64)) (by rw [bA_size, bA_size, zeros_length, zx_length]) (bA_one _) ?_; intro w3 hS3 hK3; have HS3 := Lib.hid hS3; have HK3 := Lib.hid hK3; clear hS3 hK3; go_frame))
      exact bodyPost_ret (v := .agg (bA (zx xs ys 64))) (results_cell_row Try.results16 _ _ (w.heap.size + 2) _ _ (0, 0) _ rfl HS3.out Try.underlying34 rfl (info_sec (zx_length xs ys 64))) rfl ⟨rfl, bkept HB2.out (Nat.le_refl _) HK3.out (fun i hi h => by omega)⟩
end Go.Proofs.Ytajkajgnjcnolaa

namespace Go.Proofs.Ytajkajgnjcnolaa
open Go.RowKit CrcM
set_option linter.unusedVariables false
set_option linter.unnecessarySimpa false
set_option linter.unusedSimpArgs false
end Go.Proofs.Ytajkajgnjcnolaa

namespace Go.Proofs.Ytajkajgnjcnolaa
open Go.RowKit CrcM
set_option linter.unusedVariables false
set_option linter.unnecessarySimpa false
set_option linter.unusedSimpArgs false
structure OwnAt (wb w : World) (v : Value) (bs : List Nat) : Prop where
  own : w.ownsRow wb.heap.size 5 1 v bs.length (bvals bs)
  bel : Below wb.heap.size wb w
  lt : ∀ c ∈ bs, c < 256
theorem OwnAt.made {wb : World} {bs : List Nat} (hb : ∀ c ∈ bs, c < 256) (hm : bs.length ≤ 1000000) : OwnAt wb (wb.alloc (Obj.cells (bA bs) 5)) (.slice (some ⟨wb.heap.size, 0, none⟩) bs.length bs.length) bs := by
  refine ⟨⟨by rw [bvals_length, Nat.mul_one], .inr ⟨wb.heap.size, bs.length, bA bs, rfl, Nat.le_refl _, heap_alloc_new wb _, Nat.le_refl _, by unfold maxLen; omega, by rw [bA_size, Nat.mul_one], ?_⟩⟩, below_alloc _ _, hb⟩
  rw [Nat.mul_one, List.take_of_length_le (by simp [bA, bvals_length])]
  rfl
theorem OwnAt.below {wb w w' : World} {v : Value} {bs : List Nat} (h : OwnAt wb w v bs) (hb : Below w.heap.size w w') : OwnAt wb w' v bs :=
  ⟨own_kept h.own (Kept.of_below (S := fun _ => False) hb) (fun _ _ h => h), h.bel.trans (hb.mono h.bel.size), h.lt⟩
theorem OwnAt.more {wb w w' : World} {v v' : Value} {bs ds : List Nat} (h : OwnAt wb w v bs) (hd : ∀ c ∈ ds, c < 256) (ho : w'.ownsRow wb.heap.size 5 1 v' (bs.length + ds.length) (bvals (bs ++ ds))) (hg : w.grownBy w' v.ownBlock) : OwnAt wb w' v' (bs ++ ds) := by
  refine ⟨by rw [List.length_append]; exact ho, h.bel.grown hg h.bel.size (fun g e => (h.own.lt g e).1), fun c hc => ?_⟩
  rcases List.mem_append.1 hc with h1 | h1
  · exact h.lt c h1
  · exact hd c h1
end Go.Proofs.Ytajkajgnjcnolaa

namespace Go.Proofs.Ytajkajgnjcnolaa
open Go.RowKit CrcM
set_option linter.unusedVariables false
set_option linter.unnecessarySimpa false
set_option linter.unusedSimpArgs false
section
variable {P : Program} {md : Region.Mode} {ops : Array Oper} {Q : Exit → Act → World → Prop} {S : World → Prop}
end
end Go.Proofs.Ytajkajgnjcnolaa

namespace Go.Proofs.Ytajkajgnjcnolaa
open Go.RowKit CrcM
set_option linter.unusedVariables false
set_option linter.unnecessarySimpa false
set_option linter.unusedSimpArgs false
section
variable {P : Program} {w : World} {ops : Array Oper} {rest : List Oper} {o : Oper} {a : Act} {Q : Exit → Act → World → Prop}
end
end Go.Proofs.Ytajkajgnjcnolaa

