import Derived.Test.YtajkajgnjcnolaaMp05
namespace Go.Proofs.Ytajkajgnjcnolaa
open Go.RowKit
set_option linter.unusedVariables false
set_option linter.unnecessarySimpa false
set_option linter.unusedSimpArgs false
structure R7z where
  ss : List (List Nat)
  safe : Int
  state : Int
  fin : Bool
structure R7d where
  size : Int
  opn : Int
  n : Int
  down : Bool
def z7A (z : R7z) (u : Value) : Array Value := #[u, .int .i64 z.safe, .int .i64 z.state, .bool z.fin]
def d7A (d : R7d) (v : Value) : Array Value := #[v, .int .i64 d.size, .int .i64 d.opn, .int .i64 d.n, .bool d.down]
def z7Z : Array Value := #[.slice none 0 0, .int .i64 0, .int .i64 0, .bool false]
def d7Z : Array Value := #[.slice none 0 0, .int .i64 0, .int .i64 0, .int .i64 0, .bool false]
theorem z7A_one (z : R7z) (a : Option Addr) (n c : Nat) : (z7A z (.slice a n c)).all (·.oneCell') = true := by
  simp [z7A, Value.oneCell']
theorem d7A_one (d : R7d) (a : Option Addr) (n c : Nat) : (d7A d (.slice a n c)).all (·.oneCell') = true := by
  simp [d7A, Value.oneCell']
theorem Try.info7Z : (Try.prog.info? 87).map (·.size) = some 4 := by kernel_rfl
theorem Try.info7D : (Try.prog.info? 27).map (·.size) = some 5 := by kernel_rfl
structure Duo7 (T U : TypeId) (w0 : World) (c q : Array Value) (w : World) : Prop where
  x : Blk w w0.heap.size T c
  g : Blk w (w0.heap.size + 1) U q
  b : Below w0.heap.size w0 w
section
variable {T U : TypeId} {w0 w w' : World} {c q : Array Value}
theorem Duo7.start : Duo7 T U w c q ((w.alloc (Obj.cells c T)).alloc (Obj.cells q U)) := by
  have hb := bthen (below_alloc w (Obj.cells c T)) (below_alloc _ (Obj.cells q U))
  have hg := Blk.new (w.alloc (Obj.cells c T)) U q
  rw [show (w.alloc (Obj.cells c T)).heap.size = w.heap.size + 1 by simp] at hg
  exact ⟨(Blk.new w T c).alloc _, hg, hb⟩
theorem Duo7.below (h : Duo7 T U w0 c q w) (hb : Below w.heap.size w w') : Duo7 T U w0 c q w' := ⟨h.x.below hb h.x.lt, h.g.below hb h.g.lt, bthen h.b hb⟩
theorem Duo7.set (h : Duo7 T U w0 c q w) (i : Nat) (v : Value) : Duo7 T U w0 (c.setIfInBounds i v) q (w.setCell ⟨w0.heap.size, i, none⟩ v) :=
  ⟨h.x.set i v, h.g.far (by simp) _, h.b.setCell (p := ⟨w0.heap.size, i, none⟩) (Nat.le_refl _) _⟩
theorem Duo7.out {q' : Array Value} (h : Duo7 T U w0 c q w) (hg : Blk w' (w0.heap.size + 1) U q') (hk : Kept (· = w0.heap.size + 1) w w') : Duo7 T U w0 c q' w' :=
  ⟨h.x.kept hk (by simp), hg, bkept h.b (Nat.le_refl _) hk (fun i hi e => by omega)⟩
theorem Duo7.grown {w2 : World} {row : Option Nat} (h : Duo7 T U w0 c q w) (hg : w.grownBy w2 row) (hn : ∀ g, row = some g → w0.heap.size + 1 < g) : Duo7 T U w0 c q w2 :=
  ⟨h.x.grown hg (fun e => by have := hn _ e.symm; omega), h.g.grown hg (fun e => by have := hn _ e.symm; omega), h.b.grown hg h.b.size (fun k e => by have := hn _ e; omega)⟩
theorem Duo7.far (h : Duo7 T U w0 c q w) {p : Addr} (h1 : w0.heap.size + 1 < p.block) (v : Value) : Duo7 T U w0 c q (w.setCell p v) :=
  ⟨h.x.far (by omega) _, h.g.far (by omega) _, h.b.setCell (by omega) _⟩
end
def f7E (z : R7z) : Int := if z.state = 4 then 32 else if z.state = 3 then 30 else 0
set_option maxRecDepth 100000 in
set_option maxHeartbeats 2000000 in
theorem f7 (z : R7z) (u : Value) (w : World) : Calls Try.prog 59 #[.agg (z7A z u)] w fun e w' => e = .returned (.int .i64 (f7E z)) ∧ Below w.heap.size w w' := by
  have c2 : (w.alloc (Obj.cells (z7A z u) 87)).cell? ⟨w.heap.size, 2, none⟩ = some (.int .i64 z.state) := ((Blk.new w 87 (z7A z u)).cell 2).trans rfl
  have hb := Lib.hid (below_alloc w (Obj.cells (z7A z u) 87))
  go_enter Try.func59, Try.ntmps59
  go_upto_region 1 with fail
  generalize w.alloc (Obj.cells (z7A z u) 87) = w1 at *
  go_wp2
  all_goals
    go_ret
    exact ⟨ret_int (by unfold f7E; simp_all), hb.out⟩
def b7E (d : R7d) (n : Nat) (i : Int) : Int := if d.down = true then 34 else if i < 0 ∨ (n : Int) ≤ i then 13 else 0
def b7R (d : R7d) (n : Nat) (i : Int) : R7d := if b7E d n i = 0 then { d with n := d.n + 1 } else d
set_option maxRecDepth 100000 in
set_option maxHeartbeats 2000000 in
theorem b7 (d : R7d) (a : Option Addr) (n cap : Nat) (i : Int) (w : World) (hn : 0 ≤ d.n ∧ d.n ≤ 1000000) (hl : n ≤ 1000) : Calls Try.prog 57 #[.agg (d7A d (.slice a n cap)), .int .i64 i] w fun e w' => e = .returned (.tuple #[.agg (d7A (b7R d n i) (.slice a n cap)), .int .i64 (b7E d n i)]) ∧ Below w.heap.size w w' := by
  have HS : Hid (Duo7 27 27 w (d7A d (.slice a n cap)) d7Z ((w.alloc (Obj.cells (d7A d (.slice a n cap)) 27)).alloc (Obj.cells #[.slice none 0 0, .int .i64 0, .int .i64 0, .int .i64 0, .bool false] 27))) := Lib.hid Duo7.start
  have c4 := (HS.out.x.cell 4).trans (show (d7A d (.slice a n cap))[4]? = some (.bool d.down) from rfl)
  have c0 := (HS.out.x.cell 0).trans (show (d7A d (.slice a n cap))[0]? = some (.slice a n cap) from rfl)
  have c3 := (HS.out.x.cell 3).trans (show (d7A d (.slice a n cap))[3]? = some (.int .i64 d.n) from rfl)
  have f3 := HS.out.x.frozen 3
  by_cases h1 : d.down = true
  · have hE : b7E d n i = 34 := by unfold b7E; rw [if_pos h1]
    have hR : b7R d n i = d := by unfold b7R; rw [hE]; rfl
    rw [hE, hR]
    rw [h1] at c4
    clear h1 hE hR c0 c3 f3
    go_enter Try.func57, Try.ntmps57
    go_upto_region 1 with fail
    generalize ((w.alloc (Obj.cells (d7A d (.slice a n cap)) 27)).alloc (Obj.cells #[.slice none 0 0, .int .i64 0, .int .i64 0, .int .i64 0, .bool false] 27)) = w0 at *
    go_wp2_with (first | (refine wpl_load rfl _ rfl (w.heap.size) rfl _ _ _ (HS.out.x) Try.underlying27 rfl Try.info7D ?_; go_frame) | (refine wpl_store rfl _ _ rfl (w.heap.size + 1) (d7A d (.slice a n cap)) rfl rfl _ _ HS.out.g Try.info7D rfl (d7A_one _ _ _ _) ?_; intro w4 hSg hKg; have HSg := Lib.hid hSg; have HKg := Lib.hid hKg; clear hSg hKg; go_frame))
    have HF := Lib.hid (HS.out.out HSg.out HKg.out)
    exact bodyPost_ret (v := .tuple #[.agg (d7A d (.slice a n cap)), .int .i64 34]) (results_cell_slot Try.results57 _ _ (w.heap.size + 1) 27 _ _ _ rfl rfl HF.out.g Try.underlying27 rfl Try.info7D) rfl ⟨rfl, HF.out.b⟩
  · have h1' : d.down = false := by simpa using h1
    by_cases h2 : i < 0 ∨ (n : Int) ≤ i
    · have hE : b7E d n i = 13 := by unfold b7E; rw [if_neg h1, if_pos h2]
      have hR : b7R d n i = d := by unfold b7R; rw [hE]; rfl
      rw [hE, hR]
      rw [h1'] at c4
      clear h1 h1' hE hR c3 f3
      rcases Int.lt_or_le i 0 with h0 | h0
      · clear h2
        go_enter Try.func57, Try.ntmps57
        go_upto_region 1 with fail
        generalize ((w.alloc (Obj.cells (d7A d (.slice a n cap)) 27)).alloc (Obj.cells #[.slice none 0 0, .int .i64 0, .int .i64 0, .int .i64 0, .bool false] 27)) = w0 at *
        go_wp2_with (first | (refine wpl_load rfl _ rfl (w.heap.size) rfl _ _ _ (HS.out.x) Try.underlying27 rfl Try.info7D ?_; go_frame) | (refine wpl_store rfl _ _ rfl (w.heap.size + 1) (d7A d (.slice a n cap)) rfl rfl _ _ HS.out.g Try.info7D rfl (d7A_one _ _ _ _) ?_; intro w4 hSg hKg; have HSg := Lib.hid hSg; have HKg := Lib.hid hKg; clear hSg hKg; go_frame))
        have HF := Lib.hid (HS.out.out HSg.out HKg.out)
        exact bodyPost_ret (v := .tuple #[.agg (d7A d (.slice a n cap)), .int .i64 13]) (results_cell_slot Try.results57 _ _ (w.heap.size + 1) 27 _ _ _ rfl rfl HF.out.g Try.underlying27 rfl Try.info7D) rfl ⟨rfl, HF.out.b⟩
      · have h2' : (n : Int) ≤ i := by omega
        clear h2
        go_enter Try.func57, Try.ntmps57
        go_upto_region 1 with fail
        generalize ((w.alloc (Obj.cells (d7A d (.slice a n cap)) 27)).alloc (Obj.cells #[.slice none 0 0, .int .i64 0, .int .i64 0, .int .i64 0, .bool false] 27)) = w0 at *
        go_wp2_with (first | (refine wpl_load rfl _ rfl (w.heap.size) rfl _ _ _ (HS.out.x) Try.underlying27 rfl Try.info7D ?_; go_frame) | (refine wpl_store rfl _ _ rfl (w.heap.size + 1) (d7A d (.slice a n cap)) rfl rfl _ _ HS.out.g Try.info7D rfl (d7A_one _ _ _ _) ?_; intro w4 hSg hKg; have HSg := Lib.hid hSg; have HKg := Lib.hid hKg; clear hSg hKg; go_frame))
        have HF := Lib.hid (HS.out.out HSg.out HKg.out)
        exact bodyPost_ret (v := .tuple #[.agg (d7A d (.slice a n cap)), .int .i64 13]) (results_cell_slot Try.results57 _ _ (w.heap.size + 1) 27 _ _ _ rfl rfl HF.out.g Try.underlying27 rfl Try.info7D) rfl ⟨rfl, HF.out.b⟩
    · have hE : b7E d n i = 0 := by unfold b7E; rw [if_neg h1, if_neg h2]
      have hR : b7R d n i = { d with n := d.n + 1 } := by unfold b7R; rw [hE]; rfl
      rw [hE, hR]
      rw [h1'] at c4
      have h0 : 0 ≤ i := by omega
      have h3 : i < (n : Int) := by omega
      clear h1 h1' h2 hE hR
      go_enter Try.func57, Try.ntmps57
      go_upto_region 1 with fail
      generalize ((w.alloc (Obj.cells (d7A d (.slice a n cap)) 27)).alloc (Obj.cells #[.slice none 0 0, .int .i64 0, .int .i64 0, .int .i64 0, .bool false] 27)) = w0 at *
      go_upto_region 6 with fail
      have HS2 : Hid (Duo7 27 27 w (d7A { d with n := d.n + 1 } (.slice a n cap)) d7Z (w0.setCell ⟨w.heap.size, 3, none⟩ (.int .i64 (d.n + 1)))) := Lib.hid (HS.out.set 3 _)
      clear c0 c3 c4 f3
      generalize w0.setCell ⟨w.heap.size, 3, none⟩ (.int .i64 (d.n + 1)) = w2 at *
      go_wp2_with (first | (refine wpl_load rfl _ rfl (w.heap.size) rfl _ _ _ (HS2.out.x) Try.underlying27 rfl Try.info7D ?_; go_frame) | (refine wpl_store rfl _ _ rfl (w.heap.size + 1) (d7A { d with n := d.n + 1 } (.slice a n cap)) rfl rfl _ _ HS2.out.g Try.info7D rfl (d7A_one _ _ _ _) ?_; intro w4 hSg hKg; have HSg := Lib.hid hSg; have HKg := Lib.hid hKg; clear hSg hKg; go_frame))
      have HF := Lib.hid (HS2.out.out HSg.out HKg.out)
      exact bodyPost_ret (v := .tuple #[.agg (d7A { d with n := d.n + 1 } (.slice a n cap)), .int .i64 0]) (results_cell_slot Try.results57 _ _ (w.heap.size + 1) 27 _ _ _ rfl rfl HF.out.g Try.underlying27 rfl Try.info7D) rfl ⟨rfl, HF.out.b⟩
end Go.Proofs.Ytajkajgnjcnolaa

namespace Go.Proofs.Ytajkajgnjcnolaa
open Go.RowKit
set_option linter.unusedVariables false
set_option linter.unnecessarySimpa false
set_option linter.unusedSimpArgs false
theorem flatten_len {k : Nat} {L : List (List Value)} (h : ∀ r ∈ L, r.length = k) : L.flatten.length = L.length * k := by
  induction L with
  | nil => simp
  | cons r L ih =>
    have h1 := h r (by simp)
    have h2 := ih (fun t ht => h t (by simp [ht]))
    simp only [List.flatten_cons, List.length_append, List.length_cons, h1, h2, Nat.add_mul]
    omega
theorem flatten_set {k : Nat} {L : List (List Value)} (h : ∀ r ∈ L, r.length = k) (i : Nat) (c : List Value) (hc : c.length = k) (hi : i < L.length) : (L.set i c).flatten = splice L.flatten (i * k) c := by
  induction L generalizing i with
  | nil => simp at hi
  | cons r L ih =>
    have h1 := h r (by simp)
    cases i with
    | zero => simp [splice, hc, ← h1]
    | succ i =>
      have h2 := ih (fun t ht => h t (by simp [ht])) i (by simpa using hi)
      rw [List.set_cons_succ, List.flatten_cons, h2, List.flatten_cons]
      unfold splice
      have e1 : r.take (i * k + k) = r := List.take_of_length_le (by rw [h1]; exact Nat.le_add_left _ _)
      have e2 : r.drop (i * k + k + c.length) = [] := List.drop_of_length_le (by rw [h1]; omega)
      rw [Nat.succ_mul, List.take_append, List.drop_append, e1, e2, h1]
      rw [show i * k + k - k = i * k by omega, show i * k + k + c.length - k = i * k + c.length by omega]
      simp
theorem flatten_at {k : Nat} {L : List (List Value)} (h : ∀ r ∈ L, r.length = k) (i : Nat) (hi : i < L.length) (j : Nat) (hj : j < k) : L.flatten[i * k + j]? = (L.getD i [])[j]? := by
  induction L generalizing i with
  | nil => simp at hi
  | cons r L ih =>
    have h1 := h r (by simp)
    cases i with
    | zero => simp [List.getElem?_append, h1, hj]
    | succ i =>
      have h2 := ih (fun t ht => h t (by simp [ht])) i (by simpa using hi)
      rw [List.flatten_cons, List.getElem?_append_right (by rw [h1, Nat.succ_mul]; omega), h1, show (i + 1) * k + j - k = i * k + j by rw [Nat.succ_mul]; omega, h2]
      rfl
theorem own_setCells {lo n cap g sz : Nat} {E : TypeId} : ∀ (vs : List Value) (o : Nat) (w : World) (xs : List Value), w.ownsRow lo E sz (.slice (some ⟨g, 0, none⟩) n cap) n xs → o + vs.length ≤ xs.length → (w.setCells g o vs).ownsRow lo E sz (.slice (some ⟨g, 0, none⟩) n cap) n (splice xs o vs)
  | [], o, w, xs, h, _ => by simpa [splice, World.setCells] using h
  | v :: r, o, w, xs, h, hf => by
    have h1 := (h.stored o v).1
    have h2 := own_setCells r (o + 1) _ (xs.set o v) h1 (by simp only [List.length_cons, List.length_set] at *; omega)
    rw [splice_cons xs o v r hf] at h2
    exact h2
theorem own_there {w : World} {lo n cap g sz : Nat} {E : TypeId} {xs : List Value} (h : w.ownsRow lo E sz (.slice (some ⟨g, 0, none⟩) n cap) n xs) (o m : Nat) (hf : o + m ≤ n * sz) : w.there g o m := fun j hj => by
  refine ⟨?_, h.frozenAt _⟩
  rw [h.cellAt _ (by omega), List.getElem?_eq_getElem (by have := h.1; omega)]
  rfl
structure ElK (P : Program) (S E : TypeId) (sz : Nat) : Prop where
  und : P.underlying S = some (.slice E)
  info : ∃ i z, P.info? E = some i ∧ i.zero = some z ∧ i.size = sz ∧ i.bytes ≤ 1024 ∧ z.cells.size = sz
  pos : 0 < sz
section
variable {P : Program} {w : World} {ops : Array Oper} {rest : List Oper} {o : Oper} {a : Act} {K : Act → World → Prop} {Q : Exit → Act → World → Prop} {S E : TypeId} {sz : Nat}
theorem wpo_appendK (T : ElK P S E sz) (s x : Operand) (ho : o.op = .call { callee := .builtin .append, args := #[s, x], argTypes := #[S, S] })
    (base : Nat) (v : Value) (n : Nat) (xs : List Value) (hs : a.eval s = v) (hown : w.ownsRow base E sz v n xs)
    (sp : Option Addr) (m c : Nat) (ds : List Value) (hx : a.eval x = .slice sp m c) (hl : ds.length = m * sz) (hnil : sp = none → c = 0 ∧ m = 0) (hsrc : ∀ ad, sp = some ad → ∀ j u, ds[j]? = some u → w.cell? (ad.add j) = some u) (h1 : ∀ u ∈ ds, u.oneCell' = true)
    (h63 : n + m ≤ 100000000000) (hbase : base ≤ w.heap.size)
    (h : ∀ v' w', w'.ownsRow base E sz v' (n + m) (xs ++ ds) → w.grownBy w' v.ownBlock → (v'.ownBlock = v.ownBlock ∨ v'.ownBlock = some w.heap.size) → K (a.put o.dst v') w') : Oper.wp P o a w K Q := by
  obtain ⟨i0, z0, hi, hz0, hz1, hz2, hz3⟩ := T.info
  cases sp with
  | none =>
    obtain ⟨rfl, rfl⟩ := hnil rfl
    obtain rfl : ds = [] := List.length_eq_zero_iff.1 (by omega)
    have hr := run_append_owned_none (P := P) w base S o.type E i0 sz T.und hi v n xs hown
    unfold Oper.wp execOp
    simp only [ho, resolve, invoke, builtin, Sem.run_bind, Sem.run_pure, Result.andThen_ok, List.map_toArray, List.map_cons, List.map_nil, hs, hx, hr]
    exact h v w (by simpa using hown) ⟨rfl, rfl, rfl, Nat.le_refl _, fun _ _ _ => rfl⟩ (.inl rfl)
  | some ad =>
    have hb : (n + m) * i0.bytes ≤ 100000000000 * 1024 := Nat.mul_le_mul h63 hz2
    obtain ⟨v', w', hr, h2, h3, _, h5⟩ := run_append_own_at (P := P) w base S o.type E i0 z0 sz i0.bytes T.und hi hz0 hz1 rfl hz3 T.pos v n xs hown ad m c ds hl (hsrc ad rfl) h1 (by unfold maxLen; omega) (by omega) hbase
    unfold Oper.wp execOp
    simp only [ho, resolve, invoke, builtin, Sem.run_bind, Sem.run_pure, Result.andThen_ok, List.map_toArray, List.map_cons, List.map_nil, hs, hx, hr]
    exact h v' w' h2 h3 h5
theorem wpl_appendK (T : ElK P S E sz) (hgd : o.guard = none) (s x : Operand) (ho : o.op = .call { callee := .builtin .append, args := #[s, x], argTypes := #[S, S] })
    (base : Nat) (v : Value) (n : Nat) (xs : List Value) (hs : a.eval s = v) (hown : w.ownsRow base E sz v n xs)
    (sp : Option Addr) (m c : Nat) (ds : List Value) (hx : a.eval x = .slice sp m c) (hl : ds.length = m * sz) (hnil : sp = none → c = 0 ∧ m = 0) (hsrc : ∀ ad, sp = some ad → ∀ j u, ds[j]? = some u → w.cell? (ad.add j) = some u) (h1 : ∀ u ∈ ds, u.oneCell' = true)
    (h63 : n + m ≤ 100000000000) (hbase : base ≤ w.heap.size)
    (h : ∀ v' w', w'.ownsRow base E sz v' (n + m) (xs ++ ds) → w.grownBy w' v.ownBlock → (v'.ownBlock = v.ownBlock ∨ v'.ownBlock = some w.heap.size) → wpList P ops Q rest (a.put o.dst v') w') : wpList P ops Q (o :: rest) a w :=
  wpList_plain hgd fun K' hK => wpo_appendK T s x ho base v n xs hs hown sp m c ds hx hl hnil hsrc h1 h63 hbase (fun v' w' h2 h3 h4 => hK _ _ (h v' w' h2 h3 h4))
end
theorem Try.info7Zp : (Try.prog.info? 87).map (fun i => (i.zero, i.size, i.bytes)) = some (some (.agg z7Z), 4, 48) := by kernel_rfl
theorem el7Z : ElK Try.prog 25 87 4 := by
  obtain ⟨i0, hi, hz0, hz1, hz2⟩ := info_parts Try.info7Zp
  exact ⟨Try.underlying25, ⟨i0, _, hi, hz0, hz1, by rw [hz2]; decide, rfl⟩, by decide⟩
theorem Try.info7Sp : (Try.prog.info? 33).map (fun i => (i.zero, i.size, i.bytes)) = some (some (.agg (bA (zeros 64))), 64, 64) := by kernel_rfl
theorem el7S : ElK Try.prog 85 33 64 := by
  obtain ⟨i0, hi, hz0, hz1, hz2⟩ := info_parts Try.info7Sp
  exact ⟨Try.underlying85, ⟨i0, _, hi, hz0, hz1, by rw [hz2]; decide, by show (bA (zeros 64)).size = 64; rw [bA_size, zeros_length]⟩, by decide⟩
def z7L (p : R7z × Value) : List Value := [p.2, .int .i64 p.1.safe, .int .i64 p.1.state, .bool p.1.fin]
def zrow (l : List (R7z × Value)) : List Value := (l.map z7L).flatten
theorem z7L_len (l : List (R7z × Value)) : ∀ r ∈ l.map z7L, r.length = 4 := by
  intro r hr
  obtain ⟨p, _, rfl⟩ := List.mem_map.1 hr
  rfl
theorem zrow_length (l : List (R7z × Value)) : (zrow l).length = l.length * 4 := by
  have := flatten_len (z7L_len l)
  rwa [List.length_map] at this
theorem zrow_set (l : List (R7z × Value)) (i : Nat) (p : R7z × Value) (hi : i < l.length) : splice (zrow l) (i * 4) (z7L p) = zrow (l.set i p) := by
  unfold zrow
  rw [← flatten_set (z7L_len l) i (z7L p) rfl (by simpa using hi), List.map_set]
structure Row7 (lo : Nat) (w : World) (v : Value) (l : List (R7z × Value)) : Prop where
  own : w.ownsRow lo 87 4 v l.length (zrow l)
  each : ∀ p ∈ l, w.ownsRow lo 33 64 p.2 p.1.ss.length (flat p.1.ss)
theorem Row7.below {lo : Nat} {w w' : World} {v : Value} {l : List (R7z × Value)} (h : Row7 lo w v l) (hb : Below w.heap.size w w') : Row7 lo w' v l :=
  ⟨ownK_below h.own hb, fun p hp => ownK_below (h.each p hp) hb⟩
theorem Row7.one {lo : Nat} {w : World} {v : Value} {l : List (R7z × Value)} (h : Row7 lo w v l) : ∀ u ∈ zrow l, u.oneCell' = true := by
  intro u hu
  obtain ⟨r, hr, hu⟩ := List.mem_flatten.1 hu
  obtain ⟨p, hp, rfl⟩ := List.mem_map.1 hr
  obtain ⟨a, c, he⟩ := own_slice (h.each p hp)
  unfold z7L at hu
  rw [he] at hu
  simp only [List.mem_cons, List.not_mem_nil, or_false] at hu
  rcases hu with rfl | rfl | rfl | rfl <;> rfl
end Go.Proofs.Ytajkajgnjcnolaa

namespace Go.Proofs.Ytajkajgnjcnolaa
open Go.RowKit
set_option linter.unusedVariables false
set_option linter.unnecessarySimpa false
set_option linter.unusedSimpArgs false
structure Trio7 (T T' U : TypeId) (w0 : World) (c c' q : Array Value) (w : World) : Prop where
  x : Blk w w0.heap.size T c
  y : Blk w (w0.heap.size + 1) T' c'
  g : Blk w (w0.heap.size + 2) U q
  b : Below w0.heap.size w0 w
section
variable {T T' U : TypeId} {w0 w w' : World} {c c' q : Array Value}
theorem Trio7.start : Trio7 T T' U w c c' q (((w.alloc (Obj.cells c T)).alloc (Obj.cells c' T')).alloc (Obj.cells q U)) := by
  have hb := bthen (bthen (below_alloc w (Obj.cells c T)) (below_alloc _ (Obj.cells c' T'))) (below_alloc _ (Obj.cells q U))
  have hy := (Blk.new (w.alloc (Obj.cells c T)) T' c').alloc (Obj.cells q U)
  have hg := Blk.new ((w.alloc (Obj.cells c T)).alloc (Obj.cells c' T')) U q
  rw [show (w.alloc (Obj.cells c T)).heap.size = w.heap.size + 1 by simp] at hy
  rw [show ((w.alloc (Obj.cells c T)).alloc (Obj.cells c' T')).heap.size = w.heap.size + 2 by simp] at hg
  exact ⟨((Blk.new w T c).alloc _).alloc _, hy, hg, hb⟩
theorem Trio7.set (h : Trio7 T T' U w0 c c' q w) (i : Nat) (v : Value) : Trio7 T T' U w0 (c.setIfInBounds i v) c' q (w.setCell ⟨w0.heap.size, i, none⟩ v) :=
  ⟨h.x.set i v, h.y.far (by simp) _, h.g.far (by simp) _, h.b.setCell (p := ⟨w0.heap.size, i, none⟩) (Nat.le_refl _) _⟩
theorem Trio7.out {q' : Array Value} (h : Trio7 T T' U w0 c c' q w) (hg : Blk w' (w0.heap.size + 2) U q') (hk : Kept (· = w0.heap.size + 2) w w') : Trio7 T T' U w0 c c' q' w' :=
  ⟨h.x.kept hk (by simp), h.y.kept hk (by simp), hg, bkept h.b (Nat.le_refl _) hk (fun i hi e => by omega)⟩
theorem Trio7.grown {w2 : World} {row : Option Nat} (h : Trio7 T T' U w0 c c' q w) (hg : w.grownBy w2 row) (hn : ∀ g, row = some g → w0.heap.size + 2 < g) : Trio7 T T' U w0 c c' q w2 :=
  ⟨h.x.grown hg (fun e => by have := hn _ e.symm; omega), h.y.grown hg (fun e => by have := hn _ e.symm; omega), h.g.grown hg (fun e => by have := hn _ e.symm; omega), h.b.grown hg h.b.size (fun k e => by have := hn _ e; omega)⟩
theorem Trio7.kept {g : Nat} (h : Trio7 T T' U w0 c c' q w) (hk : Kept (· = g) w w') (hg : w0.heap.size + 2 < g) : Trio7 T T' U w0 c c' q w' :=
  ⟨h.x.kept hk (by omega), h.y.kept hk (by omega), h.g.kept hk (by omega), bkept h.b (Nat.le_refl _) hk (fun i hi e => by omega)⟩
end
theorem own_ne {g n c k m : Nat} (hk : (Value.slice (some ⟨g, 0, none⟩) n c).ownBlock = some k) (h : g ≠ m) : k = m → False := by
  have h1 : g = k := by simpa [Value.ownBlock] using hk
  exact fun e => h (h1.trans e)
set_option maxRecDepth 100000 in
set_option maxHeartbeats 2000000 in
theorem p7 {lo : Nat} {w : World} {v u : Value} {l : List (R7z × Value)} (d : R7d) (z : R7z) (i : Nat) (hi : i < l.length) (hl : l.length ≤ 1000) (hr : Row7 lo w v l) (hu : w.ownsRow lo 33 64 u z.ss.length (flat z.ss)) (hlo : lo ≤ w.heap.size) :
    Calls Try.prog 60 #[.agg (d7A d v), .int .i64 (i : Nat), .agg (z7A z u)] w fun e w' => ∃ v', e = .returned (.agg (d7A d v')) ∧ Row7 lo w' v' (l.set i (z, u)) ∧ Below w.heap.size w w' := by
  obtain ⟨a, cap, rfl⟩ := own_slice hr.own
  obtain ⟨b, cu, rfl⟩ := own_slice hu
  obtain ⟨_, k1, k2⟩ := ownK_cap hr.own
  unfold maxLen at k2
  have HS : Hid (Trio7 27 87 27 w (d7A d (.slice a l.length cap)) (z7A z (.slice b z.ss.length cu)) d7Z (((w.alloc (Obj.cells (d7A d (.slice a l.length cap)) 27)).alloc (Obj.cells (z7A z (.slice b z.ss.length cu)) 87)).alloc (Obj.cells #[.slice none 0 0, .int .i64 0, .int .i64 0, .int .i64 0, .bool false] 27))) := Lib.hid Trio7.start
  have HR := Lib.hid hr
  have HU := Lib.hid hu
  have Hlo := Lib.hid hlo
  have Hi := Lib.hid hi
  clear hr hu hlo
  go_enter Try.func60, Try.ntmps60
  go_upto_region 1 with fail
  generalize (((w.alloc (Obj.cells (d7A d (.slice a l.length cap)) 27)).alloc (Obj.cells (z7A z (.slice b z.ss.length cu)) 87)).alloc (Obj.cells #[.slice none 0 0, .int .i64 0, .int .i64 0, .int .i64 0, .bool false] 27)) = w0 at *
  have c0 := (HS.out.x.cell 0).trans (show (d7A d (.slice a l.length cap))[0]? = some (.slice a l.length cap) from rfl)
  have HR0 := Lib.hid (HR.out.below HS.out.b)
  have hs0 : w.heap.size + 2 < w0.heap.size := HS.out.g.lt
  have Hs0 := Lib.hid hs0
  clear hs0
  go_upto_region 3 with (refine wpl_appendK el7Z rfl (.tmp 8) (.tmp 10) rfl lo (.slice none 0 0) 0 [] rfl (ownK_nil _ _ _ _) a l.length cap (zrow l) rfl (zrow_length l) (ownK_src HR0.out.own).1 (ownK_src HR0.out.own).2 HR0.out.one (by omega) (by have := Hlo.out; have := Hs0.out; omega) ?_; intro v1 w2 hown hgr hv1; have HS2 := Lib.hid (HS.out.grown hgr (fun g e => by simp [Value.ownBlock] at e)); rw [Nat.zero_add, List.nil_append] at hown; obtain ⟨a1, cp1, rfl⟩ := own_slice hown; obtain ⟨g, rfl, _, _⟩ := ownK_form hown (Nat.lt_of_le_of_lt (Nat.zero_le _) Hi.out); have Hown := Lib.hid hown; have hg0 : g = w0.heap.size := (by rcases hv1 with h | h; (simp [Value.ownBlock] at h); (simpa [Value.ownBlock] using h)); have Hgs := Lib.hid hgr.size; have Hg0 := Lib.hid hg0; clear hown hgr hv1; clear hg0; go_frame)
  clear c0
  go_upto_region 4 with (first | (refine wpl_load rfl _ rfl (w.heap.size + 1) rfl _ _ _ (HS2.out.y) Try.underlying87 rfl Try.info7Z ?_; go_frame) | (refine wpList_store_mid rfl _ _ _ rfl g (i * 4) (z7A z (.slice b z.ss.length cu)) rfl rfl (own_there Hown.out (i * 4) 4 (by have := Hi.out; omega)) Try.info7Z (z7A_one _ _ _ _) ?_; go_frame))
  have HO3 := Lib.hid (own_setCells (z7A z (.slice b z.ss.length cu)).toList (i * 4) w2 (zrow l) Hown.out (by rw [zrow_length]; have := Hi.out; show i * 4 + 4 ≤ l.length * 4; omega))
  have HK3 := Lib.hid (kept_setCells (g := g) (z7A z (.slice b z.ss.length cu)).toList (i * 4) w2 (Kept.refl _ _))
  generalize w2.setCells g (i * 4) (z7A z (.slice b z.ss.length cu)).toList = w3 at *
  have HS3 := Lib.hid (HS2.out.kept HK3.out (by have := Hs0.out; have := Hg0.out; omega))
  have c0 := (HS3.out.x.cell 0).trans (show (d7A d (.slice a l.length cap))[0]? = some (.slice a l.length cap) from rfl)
  have f0 := HS3.out.x.frozen 0
  go_upto_region 5 with fail
  have HS4 : Hid (Trio7 27 87 27 w (d7A d (.slice (some ⟨g, 0, none⟩) l.length cp1)) (z7A z (.slice b z.ss.length cu)) d7Z (w3.setCell ⟨w.heap.size, 0, none⟩ (.slice (some ⟨g, 0, none⟩) l.length cp1))) := Lib.hid (HS3.out.set 0 _)
  have HO4 := Lib.hid (own_kept HO3.out ((Kept.refl (· = w.heap.size) w3).setCell (p := ⟨w.heap.size, 0, none⟩) rfl (.slice (some ⟨g, 0, none⟩) l.length cp1)) (fun k hk e => own_ne hk (by have := Hs0.out; have := Hg0.out; omega) e))
  clear c0 f0
  generalize w3.setCell ⟨w.heap.size, 0, none⟩ (.slice (some ⟨g, 0, none⟩) l.length cp1) = w4 at *
  go_wp2_with (first | (refine wpl_load rfl _ rfl (w.heap.size) rfl _ _ _ (HS4.out.x) Try.underlying27 rfl Try.info7D ?_; go_frame) | (refine wpl_store rfl _ _ rfl (w.heap.size + 2) (d7A d (.slice (some ⟨g, 0, none⟩) l.length cp1)) rfl rfl _ _ HS4.out.g Try.info7D rfl (d7A_one _ _ _ _) ?_; intro w5 hSg hKg; have HSg := Lib.hid hSg; have HKg := Lib.hid hKg; clear hSg hKg; go_frame))
  have HF := Lib.hid (HS4.out.out HSg.out HKg.out)
  have HO5 := own_kept HO4.out HKg.out (fun k hk e => own_ne hk (by have := Hs0.out; have := Hg0.out; omega) e)
  rw [show (z7A z (.slice b z.ss.length cu)).toList = z7L (z, .slice b z.ss.length cu) from rfl, zrow_set l i _ Hi.out] at HO5
  refine bodyPost_ret (v := .agg (d7A d (.slice (some ⟨g, 0, none⟩) l.length cp1))) (results_cell_row Try.results60 _ _ (w.heap.size + 2) 27 _ (0, 0) _ rfl HF.out.g Try.underlying27 rfl Try.info7D) rfl ⟨_, rfl, ⟨?_, ?_⟩, HF.out.b⟩
  · rw [List.length_set]; exact HO5
  · intro p hp
    rcases List.mem_or_eq_of_mem_set hp with h | rfl
    · exact ownK_below (HR.out.each p h) HF.out.b
    · exact ownK_below HU.out HF.out.b
end Go.Proofs.Ytajkajgnjcnolaa

namespace Go.Proofs.Ytajkajgnjcnolaa
open Go.RowKit
set_option linter.unusedVariables false
set_option linter.unnecessarySimpa false
set_option linter.unusedSimpArgs false
theorem Duo7.newx {T U : TypeId} {w0 w w' : World} {c c' q : Array Value} (h : Duo7 T U w0 c q w) (hg : Blk w' w0.heap.size T c') (hk : Kept (· = w0.heap.size) w w') : Duo7 T U w0 c' q w' :=
  ⟨hg, h.g.kept hk (by simp), bkept h.b (Nat.le_refl _) hk (fun i hi e => by omega)⟩
theorem row_range {lo n cap g : Nat} {w : World} {l : List (R7z × Value)} (h : w.ownsRow lo 87 4 (.slice (some ⟨g, 0, none⟩) n cap) n (zrow l)) (hn : l.length = n) (i : Nat) (p : R7z × Value) (hp : l[i]? = some p) : w.rangeAt g (i * 4) (z7L p) := by
  intro j u hu
  have hi : i < l.length := (List.getElem?_eq_some_iff.1 hp).1
  have hj : j < 4 := by
    by_cases hj : j < (z7L p).length
    · exact hj
    · rw [List.getElem?_eq_none (by omega)] at hu; cases hu
  have hc := h.cellAt (i * 4 + j) (by omega)
  have he : ((l.map z7L).getD i []) = z7L p := by simp [List.getD_eq_getElem?_getD, hp]
  rw [hc, show zrow l = (l.map z7L).flatten from rfl, flatten_at (z7L_len l) i (by simpa using hi) j hj, he]
  exact hu
section
variable {P : Program} {w : World} {ops : Array Oper} {rest : List Oper} {o : Oper} {a : Act} {Q : Exit → Act → World → Prop}
theorem wpl_load_z (hw : Region.wanted o (yielded ops a.tmps) = true) (ty : TypeId) (x : Operand) (ho : o.op = .load ty x) (b i : Nat) (hx : a.eval x = .pointer (some ⟨b, i, none⟩)) (p : R7z × Value) (d : TypeDesc) (hc : w.rangeAt b i (z7L p))
    (hu : P.underlying ty = some d) (hd : d.isRow = true) (hi : (P.info? ty).map (·.size) = some 4)
    (h : wpList P ops Q rest (a.put o.dst (.agg (z7A p.1 p.2))) w) : wpList P ops Q (o :: rest) a w := by
  unfold wpList
  rw [if_pos hw]
  exact .inl (wp_load_mid ty x ho b i hx (z7L p) d hc hu hd hi h)
end
section
variable {P : Program} {w : World} {o : Oper} {a : Act}
theorem exec_load_z (ty : TypeId) (x : Operand) (ho : o.op = .load ty x) (b i : Nat) (hx : a.eval x = .pointer (some ⟨b, i, none⟩)) (p : R7z × Value) (d : TypeDesc) (hc : w.rangeAt b i (z7L p))
    (hu : P.underlying ty = some d) (hd : d.isRow = true) (hi : (P.info? ty).map (·.size) = some 4) : (execOp a.eval o).run P w = .ok (.value (.agg (z7A p.1 p.2))) w := by
  unfold execOp
  simp only [ho, hx, Instr.loadAt, Instr.sureAddr, Sem.run_bind, Sem.run_pure, Result.andThen_ok, run_loadVar_mid w b i ty (z7L p) d hc hu hd hi]
  rfl
theorem exec_indexK {S E : TypeId} {sz : Nat} (T : ElK P S E sz) (x ix : Operand) (ho : o.op = .indexAddr S x ix) (g n c i : Nat) (hx : a.eval x = .slice (some ⟨g, 0, none⟩) n c) (hix : a.eval ix = .int .i64 (i : Nat)) (hi : i < n) : (execOp a.eval o).run P w = .ok (.value (.pointer (some ⟨g, i * sz, none⟩))) w := by
  obtain ⟨i0, z0, hi0, hz0, hz1, hz2, hz3⟩ := T.info
  have hb : (0 : Int) ≤ (i : Nat) ∧ ((i : Nat) : Int) < (n : Nat) := by omega
  have hadd : (⟨g, 0, none⟩ : Addr).add (i * sz) = ⟨g, i * sz, none⟩ := by have := Addr.add_mid g 0 (i * sz); rwa [Nat.zero_add] at this
  unfold execOp
  simp only [ho, hx, hix]
  simp [Instr.indexAt, asIntOf, run_underlying T.und, sizeOf, typeInfo, hi0, hb, hz1, hadd, hi]
end
theorem Row7.keptB {lo g : Nat} {w w' : World} {U : TypeId} {q : Array Value} {v : Value} {l : List (R7z × Value)} (h : Row7 lo w v l) (hb : Blk w g U q) (h1 : 87 ≠ U) (h2 : 33 ≠ U) (hk : Kept (· = g) w w') : Row7 lo w' v l :=
  ⟨own_kept h.own hk (fun k hk' e => own_unlike h.own hb h1 (hk'.trans (congrArg some e)).symm), fun p hp => own_kept (h.each p hp) hk (fun k hk' e => own_unlike (h.each p hp) hb h2 (hk'.trans (congrArg some e)).symm)⟩
def z70 : R7z := ⟨[], 0, 0, false⟩
def zat (l : List (R7z × Value)) (i : Int) : R7z := (l.getD i.toNat (z70, .slice none 0 0)).1
def rs7E (d : R7d) (l : List (R7z × Value)) (i : Int) : Int := if b7E d l.length i = 0 then f7E (zat l i) else b7E d l.length i
def rs7L (d : R7d) (l : List (R7z × Value)) (i : Int) : List (R7z × Value) := if rs7E d l i = 0 then l.set i.toNat (z70, .slice none 0 0) else l
theorem b7E_in {d : R7d} {n : Nat} {i : Int} (h : b7E d n i = 0) : 0 ≤ i ∧ i < (n : Int) := by
  unfold b7E at h
  by_cases h1 : d.down = true
  · rw [if_pos h1] at h; omega
  · rw [if_neg h1] at h
    by_cases h2 : i < 0 ∨ (n : Int) ≤ i
    · rw [if_pos h2] at h; omega
    · omega
set_option maxRecDepth 100000 in
set_option maxHeartbeats 4000000 in
theorem rs7 {lo : Nat} {w : World} {v : Value} {l : List (R7z × Value)} (d : R7d) (i : Int) (hn : 0 ≤ d.n ∧ d.n ≤ 1000000) (hl : l.length ≤ 1000) (hr : Row7 lo w v l) (hlo : lo ≤ w.heap.size) :
    Calls Try.prog 31 #[.agg (d7A d v), .int .i64 i] w fun e w' => ∃ v', e = .returned (.tuple #[.agg (d7A (b7R d l.length i) v'), .int .i64 (rs7E d l i)]) ∧ Row7 lo w' v' (rs7L d l i) ∧ Below w.heap.size w w' := by
  obtain ⟨a, cap, rfl⟩ := own_slice hr.own
  obtain ⟨_, k1, k2⟩ := ownK_cap hr.own
  unfold maxLen at k2
  have HS : Hid (Duo7 27 27 w (d7A d (.slice a l.length cap)) d7Z ((w.alloc (Obj.cells (d7A d (.slice a l.length cap)) 27)).alloc (Obj.cells #[.slice none 0 0, .int .i64 0, .int .i64 0, .int .i64 0, .bool false] 27))) := Lib.hid Duo7.start
  have HR := Lib.hid hr
  have Hlo := Lib.hid hlo
  have Hn := Lib.hid hn
  clear hr hlo hn
  by_cases h1 : b7E d l.length i = 0
  · obtain ⟨i0, i1⟩ := b7E_in h1
    obtain ⟨k, rfl⟩ := Int.eq_ofNat_of_zero_le i0
    have hk : k < l.length := by omega
    obtain ⟨p, hp⟩ : ∃ p, l[k]? = some p := ⟨_, List.getElem?_eq_getElem hk⟩
    have hz : zat l (k : Int) = p.1 := by unfold zat; rw [Int.toNat_natCast, List.getD_eq_getElem?_getD, hp]; rfl
    have hE : rs7E d l (k : Int) = f7E p.1 := by unfold rs7E; rw [if_pos h1, hz]
    have hD : b7R d l.length (k : Int) = { d with n := d.n + 1 } := by unfold b7R; rw [if_pos h1]
    obtain ⟨g, rfl, _, _⟩ := ownK_form HR.out.own (by omega)
    have Hk := Lib.hid hk
    have Hp := Lib.hid hp
    have H1 := Lib.hid h1
    have HD := Lib.hid hD
    rw [hE]
    by_cases h2 : f7E p.1 = 0
    · have hL : rs7L d l (k : Int) = l.set k (z70, .slice none 0 0) := by unfold rs7L; rw [if_pos (hE.trans h2), Int.toNat_natCast]
      rw [hL, hD, h2]
      have H2 := Lib.hid h2
      clear h1 h2 hE hD hL hz hp i0 i1
      go_enter Try.func31, Try.ntmps31
      go_upto_region 1 with fail
      generalize ((w.alloc (Obj.cells (d7A d (.slice (some ⟨g, 0, none⟩) l.length cap)) 27)).alloc (Obj.cells #[.slice none 0 0, .int .i64 0, .int .i64 0, .int .i64 0, .bool false] 27)) = w0 at *
      go_wp2_with (first | (refine wpl_load rfl _ rfl (w.heap.size) rfl _ _ _ (HS.out.x) Try.underlying27 rfl Try.info7D ?_; go_frame))
      refine (b7 d (some ⟨g, 0, none⟩) l.length cap (k : Int) _ Hn.out (by omega)).mono ?_
      rintro e w1 ⟨rfl, hb⟩
      rw [H1.out, HD.out]
      have HS1 := Lib.hid (HS.out.below hb)
      clear hb
      go_upto_region 2 with (first | (refine wpl_store rfl _ _ rfl (w.heap.size) (d7A { d with n := d.n + 1 } (.slice (some ⟨g, 0, none⟩) l.length cap)) rfl rfl _ _ HS1.out.x Try.info7D rfl (d7A_one _ _ _ _) ?_; intro w2 hX hK; have HS2 := Lib.hid (HS1.out.newx hX hK); clear hX hK; go_frame))
      have HR2 := Lib.hid (HR.out.below HS2.out.b)
      have c0 := (HS2.out.x.cell 0).trans (show (d7A { d with n := d.n + 1 } (.slice (some ⟨g, 0, none⟩) l.length cap))[0]? = some (.slice (some ⟨g, 0, none⟩) l.length cap) from rfl)
      have HC := Lib.hid (row_range HR2.out.own rfl k p Hp.out)
      go_wp2_with (first | (refine wpl_load_z (by rfl) _ _ rfl g (k * 4) rfl p _ HC.out Try.underlying87 rfl Try.info7Z ?_; go_frame))
      refine (f7 p.1 p.2 _).mono ?_
      rintro e w3 ⟨rfl, hb⟩
      rw [H2.out]
      have HS3 := Lib.hid (HS2.out.below hb)
      have HR3 := Lib.hid (HR2.out.below hb)
      clear hb c0
      go_wp2_with (first | (refine wpl_load rfl _ rfl (w.heap.size) rfl _ _ _ (HS3.out.x) Try.underlying27 rfl Try.info7D ?_; go_frame) | (refine wpl_build (by rfl) _ _ rfl (.agg (z7A z70 (.slice none 0 0))) (fun w => by kernel_rfl) ?_; go_frame))
      refine (p7 { d with n := d.n + 1 } z70 k Hk.out (by omega) HR3.out (ownK_nil _ _ _ _) (by have := HS3.out.b.size; have := Hlo.out; omega)).mono ?_
      rintro e w4 ⟨v', rfl, hr4, hb⟩
      obtain ⟨a4, c4, hv4⟩ := own_slice hr4.own
      rw [List.length_set] at hv4
      subst hv4
      have HS4 := Lib.hid (HS3.out.below hb)
      have HR4 := Lib.hid hr4
      clear hb hr4
      go_wp2_with (first | (refine wpl_store rfl _ _ rfl (w.heap.size + 1) (d7A { d with n := d.n + 1 } (.slice a4 l.length c4)) rfl rfl _ _ HS4.out.g Try.info7D rfl (d7A_one _ _ _ _) ?_; intro w5 hSg hKg; have HSg := Lib.hid hSg; have HKg := Lib.hid hKg; clear hSg hKg; go_frame))
      have HF := Lib.hid (HS4.out.out HSg.out HKg.out)
      exact bodyPost_ret (v := .tuple #[.agg (d7A { d with n := d.n + 1 } (.slice a4 l.length c4)), .int .i64 0]) (results_cell_slot Try.results31 _ _ (w.heap.size + 1) 27 _ _ _ rfl rfl HF.out.g Try.underlying27 rfl Try.info7D) rfl ⟨_, rfl, HR4.out.keptB HS4.out.g (by decide) (by decide) HKg.out, HF.out.b⟩
    · have hL : rs7L d l (k : Int) = l := by unfold rs7L; rw [if_neg (by rw [hE]; exact h2)]
      rw [hL, hD]
      have h2' : (f7E p.1 != 0) = true := by simpa using h2
      clear h1 h2 hE hD hL hz hp i0 i1
      go_enter Try.func31, Try.ntmps31
      go_upto_region 1 with fail
      generalize ((w.alloc (Obj.cells (d7A d (.slice (some ⟨g, 0, none⟩) l.length cap)) 27)).alloc (Obj.cells #[.slice none 0 0, .int .i64 0, .int .i64 0, .int .i64 0, .bool false] 27)) = w0 at *
      go_wp2_with (first | (refine wpl_load rfl _ rfl (w.heap.size) rfl _ _ _ (HS.out.x) Try.underlying27 rfl Try.info7D ?_; go_frame))
      refine (b7 d (some ⟨g, 0, none⟩) l.length cap (k : Int) _ Hn.out (by omega)).mono ?_
      rintro e w1 ⟨rfl, hb⟩
      rw [H1.out, HD.out]
      have HS1 := Lib.hid (HS.out.below hb)
      clear hb
      go_upto_region 2 with (first | (refine wpl_store rfl _ _ rfl (w.heap.size) (d7A { d with n := d.n + 1 } (.slice (some ⟨g, 0, none⟩) l.length cap)) rfl rfl _ _ HS1.out.x Try.info7D rfl (d7A_one _ _ _ _) ?_; intro w2 hX hK; have HS2 := Lib.hid (HS1.out.newx hX hK); clear hX hK; go_frame))
      have HR2 := Lib.hid (HR.out.below HS2.out.b)
      have c0 := (HS2.out.x.cell 0).trans (show (d7A { d with n := d.n + 1 } (.slice (some ⟨g, 0, none⟩) l.length cap))[0]? = some (.slice (some ⟨g, 0, none⟩) l.length cap) from rfl)
      have HC := Lib.hid (row_range HR2.out.own rfl k p Hp.out)
      go_wp2_with (first | (refine wpl_load_z (by rfl) _ _ rfl g (k * 4) rfl p _ HC.out Try.underlying87 rfl Try.info7Z ?_; go_frame))
      refine (f7 p.1 p.2 _).mono ?_
      rintro e w3 ⟨rfl, hb⟩
      have HS3 := Lib.hid (HS2.out.below hb)
      have HR3 := Lib.hid (HR2.out.below hb)
      clear hb c0
      go_upto_region 5 with fail
      have Hx := Lib.hid HS3.out.x
      have Hg := Lib.hid HS3.out.g
      refine wp_region_held (S := fun w' => Kept (· = w.heap.size + 1) w3 w') (by kernel_rfl) ?_
      change wpAnyH _ _ _ _ _ _ _ _ (World.drew _)
      have hS : Kept (· = w.heap.size + 1) w3 w3.drew := (Kept.refl _ _).drew
      have hB0 : Below w3.heap.size w3 w3.drew := (Below.refl _ _).drew
      refine takeH hS (i := 0) (d := 24) (v := .agg (d7A { d with n := d.n + 1 } (.slice (some ⟨g, 0, none⟩) l.length cap))) rfl rfl (by kernel_rfl) (by kernel_rfl) (by kernel_rfl) (fun _ _ _ h => h) (Or.inl ⟨by kernel_rfl, fun w' hw' => by exact exec_load _ rfl (w.heap.size) rfl (Hx.out.kept hw' (by omega)) Try.underlying27 rfl (Try.info7D)⟩) ?_
      refine takeH hS (i := 1) (d := 25) (v := .pointer (some ⟨w.heap.size, 0, none⟩)) rfl rfl (by kernel_rfl) (by kernel_rfl) (by kernel_rfl) (fun _ _ _ h => h) (Or.inl ⟨by kernel_rfl, fun w' hw' => by kernel_rfl⟩) ?_
      refine takeH hS (i := 2) (d := 26) (v := .slice (some ⟨g, 0, none⟩) l.length cap) rfl rfl (by kernel_rfl) (by kernel_rfl) (by kernel_rfl) (fun _ _ _ h => h) (Or.inl ⟨by kernel_rfl, fun w' hw' => by exact exec_cellv _ rfl ⟨w.heap.size, 0, none⟩ rfl (.slice (some ⟨g, 0, none⟩) l.length cap) Try.underlying25 rfl (((Hx.out.kept hw' (by omega)).cell 0).trans rfl)⟩) ?_
      refine takeH hS (i := 3) (d := 27) (v := .int .i64 (k : Nat)) rfl rfl (by kernel_rfl) (by kernel_rfl) (by kernel_rfl) (fun _ _ _ h => h) (Or.inl ⟨by kernel_rfl, fun w' hw' => by kernel_rfl⟩) ?_
      refine takeH hS (i := 4) (d := 28) (v := .pointer (some ⟨g, k * 4, none⟩)) rfl rfl (by kernel_rfl) (by kernel_rfl) (by kernel_rfl) (fun _ _ _ h => h) (Or.inl ⟨by kernel_rfl, fun w' hw' => by exact exec_indexK el7Z _ _ rfl g l.length cap k rfl rfl Hk.out⟩) ?_
      refine takeH hS (i := 5) (d := 29) (v := .agg (z7A p.1 p.2)) rfl rfl (by kernel_rfl) (by kernel_rfl) (by kernel_rfl) (fun _ _ _ h => h) (Or.inl ⟨by kernel_rfl, fun w' hw' => by exact exec_load_z _ _ rfl g (k * 4) rfl p _ (row_range (HR3.out.keptB Hg.out (by decide) (by decide) hw').own rfl k p Hp.out) Try.underlying87 rfl Try.info7Z⟩) ?_
      try go_frame
      refine nextH (i := 6) rfl (by kernel_rfl) (by kernel_rfl) (fun K' hK => ?_)
      go_wp2_with fail
      refine (f7 p.1 p.2 _).mono ?_
      rintro en w3c1 ⟨rfl, hb⟩
      have hS1 : Kept (· = w.heap.size + 1) w3 w3c1 := kept_next hS hb
      have hB1 : Below w3.heap.size w3 w3c1 := bel_next hB0 hb
      refine hK.out _ _ ⟨hS1, ?_⟩
      clear hK K' hb hS hB0
      refine nextH (i := 7) rfl (by kernel_rfl) (by kernel_rfl) (fun K' hK => ?_)
      refine wpo_store _ _ rfl (w.heap.size + 1) (d7A { d with n := d.n + 1 } (.slice (some ⟨g, 0, none⟩) l.length cap)) rfl rfl _ _ (Hg.out.below hB1 Hg.out.lt) (Try.info7D) (rfl) (d7A_one _ _ _ _) ?_
      intro w3s2 hP2 hq
      have hS2 : Kept (· = w.heap.size + 1) w3 w3s2 := hS1.trans hq
      refine hK.out _ _ ⟨hS2, ?_⟩
      clear hK K' hq hS1
      try go_frame
      refine takeH hS2 (i := 8) (d := 5) (v := .int .i64 (f7E p.1)) rfl rfl (by kernel_rfl) (by kernel_rfl) (by kernel_rfl) (fun _ _ _ h => h) (Or.inl ⟨by kernel_rfl, fun w' hw' => by kernel_rfl⟩) ?_
      refine wpAnyH_done (by kernel_rfl) ?_ _
      try go_frame
      have HF := Lib.hid (HS3.out.out hP2 hS2)
      have HR4 := Lib.hid (HR3.out.keptB HS3.out.g (by decide) (by decide) hS2)
      clear hS2 hP2
      go_wp2_with fail
      exact bodyPost_ret (v := .tuple #[.agg (d7A { d with n := d.n + 1 } (.slice (some ⟨g, 0, none⟩) l.length cap)), .int .i64 (f7E p.1)]) (results_cell_slot Try.results31 _ _ (w.heap.size + 1) 27 _ _ _ rfl rfl HF.out.g Try.underlying27 rfl Try.info7D) rfl ⟨_, rfl, HR4.out, HF.out.b⟩
  · have hE : rs7E d l i = b7E d l.length i := by unfold rs7E; rw [if_neg h1]
    have hD : b7R d l.length i = d := by unfold b7R; rw [if_neg h1]
    have hL : rs7L d l i = l := by unfold rs7L; rw [if_neg (by rw [hE]; exact h1)]
    have h1' : (b7E d l.length i != 0) = true := by simpa using h1
    have HD := Lib.hid hD
    rw [hE, hD, hL]
    clear h1 hE hD hL
    go_enter Try.func31, Try.ntmps31
    go_upto_region 1 with fail
    generalize ((w.alloc (Obj.cells (d7A d (.slice a l.length cap)) 27)).alloc (Obj.cells #[.slice none 0 0, .int .i64 0, .int .i64 0, .int .i64 0, .bool false] 27)) = w0 at *
    go_wp2_with (first | (refine wpl_load rfl _ rfl (w.heap.size) rfl _ _ _ (HS.out.x) Try.underlying27 rfl Try.info7D ?_; go_frame))
    refine (b7 d a l.length cap i _ Hn.out hl).mono ?_
    rintro e w1 ⟨rfl, hb⟩
    rw [HD.out]
    have HS1 := Lib.hid (HS.out.below hb)
    clear hb
    go_upto_region 2 with (first | (refine wpl_store rfl _ _ rfl (w.heap.size) (d7A d (.slice a l.length cap)) rfl rfl _ _ HS1.out.x Try.info7D rfl (d7A_one _ _ _ _) ?_; intro w2 hX hK; have HS2 := Lib.hid (HS1.out.newx hX hK); clear hX hK; go_frame))
    go_wp2_with (first | (refine wpl_load rfl _ rfl (w.heap.size) rfl _ _ _ (HS2.out.x) Try.underlying27 rfl Try.info7D ?_; go_frame) | (refine wpl_store rfl _ _ rfl (w.heap.size + 1) (d7A d (.slice a l.length cap)) rfl rfl _ _ HS2.out.g Try.info7D rfl (d7A_one _ _ _ _) ?_; intro w5 hSg hKg; have HSg := Lib.hid hSg; have HKg := Lib.hid hKg; clear hSg hKg; go_frame))
    have HF := Lib.hid (HS2.out.out HSg.out HKg.out)
    exact bodyPost_ret (v := .tuple #[.agg (d7A d (.slice a l.length cap)), .int .i64 (b7E d l.length i)]) (results_cell_slot Try.results31 _ _ (w.heap.size + 1) 27 _ _ _ rfl rfl HF.out.g Try.underlying27 rfl Try.info7D) rfl ⟨_, rfl, HR.out.below HF.out.b, HF.out.b⟩
end Go.Proofs.Ytajkajgnjcnolaa

