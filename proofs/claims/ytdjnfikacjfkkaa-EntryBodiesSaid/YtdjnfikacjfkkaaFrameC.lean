/-
  Layer 3 (frame), second part: steps over frames and sectors; a pen right or wrong; what write tells.
-/
import Derived.Test.YtdjnfikacjfkkaaFrameB
namespace Go.Proofs.Ytdjnfikacjfkkaa
open Go.RowKit CrcM
set_option linter.unusedVariables false
set_option linter.unnecessarySimpa false
set_option linter.unusedSimpArgs false

theorem Kept.setRow {S : Nat → Prop} {w0 w : World} (h : Kept S w0 w) {g : Nat} (hg : S g) (cs : Array Value) : Kept S w0 (w.setRow g cs) := by
  refine ⟨h.os, h.tape, h.output, ?_, fun k hk hn => ?_⟩
  · have := h.size; unfold World.setRow; simpa using this
  · rw [← h.block k hk hn]
    unfold World.setRow
    show (w.heap.modify g _)[k]? = w.heap[k]?
    rw [Array.getElem?_modify, if_neg (fun e => hn (by rw [← e]; exact hg))]

theorem Blk.setRow {w : World} {g : Nat} {t : TypeId} {old cs : Array Value} (h : Blk w g t old) : Blk (w.setRow g cs) g t cs := setRow_heap w g old cs t (0, 0) h

section
variable {P : Program} {w : World} {ops : Array Oper} {rest : List Oper} {o : Oper} {a : Act} {Q : Exit → Act → World → Prop}

/-- A struct or an array is read whole. -/
theorem wpl_load (hgd : o.guard = none) {ty : TypeId} (x : Operand) (ho : o.op = .load ty x) (g : Nat) (hx : a.eval x = .pointer (some ⟨g, 0, none⟩)) (t : TypeId) (cs : Array Value) (d : TypeDesc) (hg : Blk w g t cs)
    (hu : P.underlying ty = some d) (hd : (match d with | .struct _ | .array _ _ => true | _ => false) = true) (hi : (P.info? ty).map (·.size) = some cs.size)
    (h : wpList P ops Q rest (a.put o.dst (.agg cs)) w) : wpList P ops Q (o :: rest) a w :=
  wpList_load_row hgd ty x ho g hx t cs (0, 0) d hg hu hd hi h

/-- As above, where the operation has a guard that lets it be. -/
theorem wpl_load_g (hw : Region.wanted o (yielded ops a.tmps) = true) {ty : TypeId} (x : Operand) (ho : o.op = .load ty x) (g : Nat) (hx : a.eval x = .pointer (some ⟨g, 0, none⟩)) (t : TypeId) (cs : Array Value) (d : TypeDesc) (hg : Blk w g t cs)
    (hu : P.underlying ty = some d) (hd : (match d with | .struct _ | .array _ _ => true | _ => false) = true) (hi : (P.info? ty).map (·.size) = some cs.size)
    (h : wpList P ops Q rest (a.put o.dst (.agg cs)) w) : wpList P ops Q (o :: rest) a w := by
  unfold wpList
  rw [if_pos hw]
  exact .inl (wp_load_row ty x ho g hx t cs (0, 0) d hg hu hd hi h)

/-- A struct or an array is made of constants. -/
theorem wpl_build (hw : Region.wanted o (yielded ops a.tmps) = true) (ty : TypeId) (parts : Array (Nat × Operand)) (ho : o.op = .build ty parts) (v : Value) (hrun : ∀ w, (execOp a.eval o).run P w = .ok (.value v) w)
    (h : wpList P ops Q rest (a.put o.dst v) w) : wpList P ops Q (o :: rest) a w := by
  unfold wpList
  rw [if_pos hw]
  refine .inl ?_
  unfold Oper.wp
  rw [hrun w]
  exact h

/-- A struct or an array is written whole. -/
theorem wpl_store (hgd : o.guard = none) {ty : TypeId} (x y : Operand) (ho : o.op = .store ty x y) (g : Nat) (cs : Array Value) (hx : a.eval x = .pointer (some ⟨g, 0, none⟩)) (hy : a.eval y = .agg cs) (t : TypeId) (old : Array Value) (hg : Blk w g t old)
    (hi : (P.info? ty).map (·.size) = some cs.size) (hold : old.size = cs.size) (h1 : cs.all (·.oneCell') = true)
    (h : ∀ w', Blk w' g t cs → Kept (· = g) w w' → wpList P ops Q rest (a.put o.dst undef) w') : wpList P ops Q (o :: rest) a w :=
  wpList_store_row hgd ty x y ho g cs hx hy t old hg hi hold h1 (h _ (Blk.setRow hg) ((Kept.refl (· = g) w).setRow rfl cs))

/-- As above, into a block that was just made. -/
theorem wpl_store_new (hgd : o.guard = none) {ty : TypeId} (x y : Operand) (ho : o.op = .store ty x y) (cs : Array Value) (w0 : World) (t : TypeId) (old : Array Value) (hw : w = w0.alloc (.cells old t)) (hx : a.eval x = .pointer (some ⟨w0.heap.size, 0, none⟩)) (hy : a.eval y = .agg cs)
    (hi : (P.info? ty).map (·.size) = some cs.size) (hold : old.size = cs.size) (h1 : cs.all (·.oneCell') = true)
    (h : wpList P ops Q rest (a.put o.dst undef) (w0.alloc (.cells cs t))) : wpList P ops Q (o :: rest) a w := by
  subst hw
  refine wpList_store_row hgd ty x y ho w0.heap.size cs hx hy t old (heap_alloc_new w0 _) hi hold h1 ?_
  rwa [setRow_new]

theorem wp_copy_at {K : Act → World → Prop} (hgd : o.guard = none) (d s : Operand) (dT sT : TypeId) (ho : o.op = .call { callee := .builtin .copy, args := #[d, s], argTypes := #[dT, sT] }) {elem : TypeId} (hu : P.underlying dT = some (.slice elem)) (hsz : (P.info? elem).map (·.size) = some 1)
    (g off dLen dCap : Nat) (cur : List Value) (t : TypeId) (hg : Blk w g t cur.toArray) (hd : a.eval d = .slice (some ⟨g, off, none⟩) dLen dCap) (hfit : off + dLen ≤ cur.length) (sp : Option Addr) (sLen sCap : Nat) (bs : List Nat) (hs : a.eval s = .slice sp sLen sCap) (hrow : RowB w sp sLen sCap bs)
    (h : ∀ w', Blk w' g t (splice cur off (bvals (bs.take dLen))).toArray → Below g w w' → K (a.put o.dst (goInt (min sLen dLen : Nat))) w') : Oper.wp P o a w K Q := by
  have hbl := hrow.length
  have hlen : (bvals (bs.take dLen)).length = min sLen dLen := by rw [bvals_length, List.length_take, hbl, Nat.min_comm]
  have hw : Region.wanted o (yielded #[] a.tmps) = true := by simp [Region.wanted, hgd]
  have hstep := step_copy_splice (P := P) (ops := #[]) (o := o) (a := a) (w := w) (K := K) (Q := Q) (E := True) hgd d s dT sT ho elem hu hsz _ sp dLen dCap sLen sCap hd hs g off cur t hg (bvals (bs.take dLen)) hlen ?_ ?_ (bvals_one _) g w (Below.refl _ _) (Nat.le_refl _) ?_
  · rwa [if_pos hw] at hstep
  · intro h0
    rw [hlen] at h0
    obtain ⟨b, off', rfl, _⟩ := hrow.cells (by omega)
    refine ⟨rfl, _, rfl, fun j v hv => hrow.src _ rfl j v ?_⟩
    have hj : j < (bvals (bs.take dLen)).length := by
      by_cases hj : j < (bvals (bs.take dLen)).length
      · exact hj
      · rw [List.getElem?_eq_none (by omega)] at hv; cases hv
    rw [hlen] at hj
    rw [← hv]
    simp only [bvals, List.getElem?_map, List.getElem?_take_of_lt (show j < dLen by omega)]
  · rw [hlen]; omega
  · intro w' hg' hb'
    rw [hlen]
    exact h w' hg'.out hb'
end

/-- A pen, of some bytes, or wrong; B: the first block of the call's own. -/
structure PenO (B p L : Nat) (r : Option (List Nat)) (w : World) : Prop where
  pen : ∀ qs, r = some qs → ∃ v, PenAt w p v qs ∧ ∀ g, v.ownBlock = some g → B ≤ g
  bad : r = none → PenBad w p
  len : ∀ qs, r = some qs → qs.length ≤ L

theorem PenO.new {w : World} {B p : Nat} (h : Blk w p 61 #[.slice none 0 0, .bool false]) : PenO B p 0 (some []) w :=
  ⟨fun qs hq => (by cases hq; exact ⟨_, pen_new p h, fun g hg => by cases hg⟩), fun hq => (by cases hq), fun qs hq => (by cases hq; exact Nat.le_refl _)⟩

/-- What a call of the pen leaves. -/
def PenOPost (B p L : Nat) (r : Option (List Nat)) (w : World) (e : Ending) (w' : World) : Prop := e = .returned (.tuple #[]) ∧ PenO B p L r w' ∧ Below B w w'

theorem PenO.wrote {B p L : Nat} {qs ds : List Nat} {v : Value} {w w' : World} {e : Ending} (hL : qs.length + ds.length ≤ L) (hp : B ≤ p) (hB : B ≤ w.heap.size) (hs : ∀ g, v.ownBlock = some g → B ≤ g) (hw : PenWrote p v qs ds w e w') : PenOPost B p L (some (qs ++ ds)) w e w' := by
  obtain ⟨he, v', hv', hk, hd⟩ := hw
  refine ⟨he, ⟨fun qs' hq => ?_, fun hq => (by cases hq), fun qs' hq => (by cases hq; simpa using hL)⟩, hk.below hB (fun k hk1 hS => ?_)⟩
  · cases hq
    refine ⟨v', hv', fun g hg => ?_⟩
    rcases hd with hd | ⟨g', hd, hg'⟩
    · exact hs g (hd ▸ hg)
    · rw [hd] at hg; cases hg; omega
  · rcases hS with rfl | hS
    · omega
    · have := hs k hS.symm; omega

theorem PenO.spoilt {B p L : Nat} {w w' : World} {e : Ending} (hp : B ≤ p) (hB : B ≤ w.heap.size) (hw : PenSpoilt p w e w') : PenOPost B p L none w e w' := by
  obtain ⟨he, hbad, hk⟩ := hw
  exact ⟨he, ⟨fun qs' hq => (by cases hq), fun _ => hbad, fun qs' hq => (by cases hq)⟩, hk.below hB (fun k hk1 hS => by omega)⟩

/-- What a number more makes of a pen. -/
def pNum (r : Option (List Nat)) (wd x : Int) : Option (List Nat) := if fitB wd x = true then r.map (· ++ leb wd.toNat x.toNat) else none
def pBytes (r : Option (List Nat)) (ds : List Nat) : Option (List Nat) := r.map (· ++ ds)

theorem penO_num (B p L : Nat) (r : Option (List Nat)) (w : World) (wd x : Int) (h : PenO B p L r w) (hp : B ≤ p) (hB : B ≤ w.heap.size) (hl : L ≤ 1000000) :
    Calls Try.prog 29 #[.pointer (some ⟨p, 0, none⟩), .int .i64 wd, .int .i64 x] w (PenOPost B p (L + 7) (pNum r wd x) w) := by
  unfold pNum
  cases hf : fitB wd x with
  | true =>
    rw [if_pos rfl]
    have hw := of_decide_eq_true hf
    obtain ⟨k, rfl⟩ : ∃ k : Nat, wd = k := ⟨wd.toNat, by omega⟩
    obtain ⟨y, rfl⟩ : ∃ y : Nat, x = y := ⟨x.toNat, by omega⟩
    cases r with
    | none => exact (penNum_okBad p k y w (h.bad rfl) hf).mono (fun e w' hw => PenO.spoilt hp hB hw)
    | some qs =>
      obtain ⟨v, hv, hs⟩ := h.pen qs rfl
      have hlq := h.len qs rfl
      exact (penNum_ok p v qs k y w hv hf (by omega)).mono (fun e w' hw' => PenO.wrote (by rw [leb_length]; omega) hp hB hs hw')
  | false =>
    rw [if_neg (by decide)]
    cases r with
    | none => exact (penNum_wrong p _ true wd x w (h.bad rfl) hf).mono (fun e w' hw => PenO.spoilt hp hB hw)
    | some qs =>
      obtain ⟨v, hv, hs⟩ := h.pen qs rfl
      exact (penNum_wrong p v false wd x w hv.1 hf).mono (fun e w' hw => PenO.spoilt hp hB hw)

theorem penO_bytes (B p L : Nat) (r : Option (List Nat)) (w : World) (a : Option Addr) (n cap : Nat) (ds : List Nat) (h : PenO B p L r w) (hp : B ≤ p) (hB : B ≤ w.heap.size) (hr : RowB w a n cap ds) (hl : L + n ≤ 1000000) :
    Calls Try.prog 30 #[.pointer (some ⟨p, 0, none⟩), .slice a n cap] w (PenOPost B p (L + n) (pBytes r ds) w) := by
  cases r with
  | none =>
    refine (penBytes_bad p a n cap w (h.bad rfl)).mono ?_
    rintro e w' ⟨rfl, rfl⟩
    exact ⟨rfl, ⟨fun qs' hq => (by cases hq), fun _ => h.bad rfl, fun qs' hq => (by cases hq)⟩, Below.refl _ _⟩
  | some qs =>
    obtain ⟨v, hv, hs⟩ := h.pen qs rfl
    have hlq := h.len qs rfl
    have hrl := hr.length
    exact (penBytes_any p v qs a n cap ds w hv hr (by omega)).mono (fun e w' hw => PenO.wrote (by omega) hp hB hs hw)

/-- What write tells: something, and an error or none; where the bytes fit, a row of them. -/
def WritePost (r : Option (List Nat)) (w : World) (e : Ending) (w' : World) : Prop :=
  ∃ v x, e = .returned (.tuple #[v, .int .i64 x]) ∧ Below w.heap.size w w' ∧ ∀ qs, r = some qs → x = 0 ∧ ∃ g, v = .slice (some ⟨g, 0, none⟩) qs.length qs.length ∧ w.heap.size ≤ g ∧ Blk w' g 5 (bA qs)

theorem penO_out (B p L : Nat) (r : Option (List Nat)) (w : World) (h : PenO B p L r w) (hl : L ≤ 1000000) :
    Calls Try.prog 31 #[.pointer (some ⟨p, 0, none⟩)] w (WritePost r w) := by
  cases r with
  | none =>
    refine (penOut_bad p w (h.bad rfl)).mono ?_
    rintro e w' ⟨rfl, rfl⟩
    exact ⟨_, _, rfl, Below.refl _ _, fun qs hq => (by cases hq)⟩
  | some qs =>
    obtain ⟨v, hv, hs⟩ := h.pen qs rfl
    have hlq := h.len qs rfl
    refine (penOut_ok p v qs w hv (by omega)).mono ?_
    rintro e w' ⟨g, rfl, hg, hG, hB⟩
    exact ⟨_, _, rfl, hB, fun qs' hq => (by cases hq; exact ⟨rfl, g, rfl, hg, hG⟩)⟩

/-- All that stands ahead of the sum, if it fits. -/
def aheadO (f : FrR) : Option (List Nat) := pBytes (pNum (pNum (pNum (pNum (pNum (pNum (some []) 1 f.k) 1 1) 2 f.z) 2 f.o) 4 f.e) 6 f.s) f.b
/-- .. of a right frame. -/
def ahead (f : FrR) : List Nat := leb 1 f.k.toNat ++ leb 1 1 ++ leb 2 f.z.toNat ++ leb 2 f.o.toNat ++ leb 4 f.e.toNat ++ leb 6 f.s.toNat ++ f.b
/-- Its sector. -/
def sec (f : FrR) : List Nat := sealed (ahead f)

theorem fit_of {k : Nat} {x : Int} (hk : 1 ≤ k ∧ k ≤ 7) (h0 : 0 ≤ x) (h1 : x < 256 ^ k) : fitB (k : Int) x = true :=
  decide_eq_true ⟨by omega, by omega, h0, by rw [Int.toNat_natCast]; exact h1⟩

theorem aheadO_right {f : FrR} (h : rightB f = true) : aheadO f = some (ahead f) := by
  obtain ⟨⟨h1, h2⟩, ⟨h3, h4⟩, ⟨h5, h6⟩, ⟨h7, h8⟩, h9, h10⟩ := (right_iff f).1 h
  unfold aheadO pNum pBytes
  rw [show fitB 1 f.k = true from fit_of (k := 1) (by omega) (by omega) (by omega), show fitB 1 1 = true from by decide, show fitB 2 f.z = true from fit_of (k := 2) (by omega) (by omega) (by omega), show fitB 2 f.o = true from fit_of (k := 2) (by omega) (by omega) (by omega),
    show fitB 4 f.e = true from fit_of (k := 4) (by omega) (by omega) (by omega), show fitB 6 f.s = true from fit_of (k := 6) (by omega) (by omega) (by omega)]
  simp [ahead]

theorem ahead_length {f : FrR} (h : f.b.length = 44) : (ahead f).length = 60 := by simp [ahead, leb_length, h]
theorem ahead_lt {f : FrR} (h : ∀ c ∈ f.b, c < 256) : ∀ c ∈ ahead f, c < 256 := by
  intro c hc
  simp only [ahead, List.mem_append] at hc
  rcases hc with (((((h1 | h1) | h1) | h1) | h1) | h1) | h1
  all_goals first | exact leb_lt _ _ c h1 | exact h c h1
theorem sec_length {f : FrR} (h : f.b.length = 44) : (sec f).length = 64 := by rw [sec, sealed_length, ahead_length h]
theorem sec_lt {f : FrR} (h : ∀ c ∈ f.b, c < 256) : ∀ c ∈ sec f, c < 256 := sealed_lt (ahead_lt h)

theorem run_slice_44 (w : World) (g : Nat) :
    (Instr.sliceAt 26 (.pointer (some ⟨g, 5, none⟩)) none none none).run Try.prog w = .ok (.slice (some ⟨g, 5, none⟩) 44 44) w := by
  obtain ⟨i0, hi, hz0, hz1, hz2⟩ := info_parts Try.infoByte
  simp [Instr.sliceAt, Instr.sureAddr, Instr.sliceBounds, Instr.sliceBound, run_underlying Try.underlying26, asIntOf, sizeOf, typeInfo, hi, Addr.add]


/-- A frame's body, as a row. -/
theorem row_body {w : World} {g : Nat} {t : TypeId} {f : FrR} (h : Blk w g t (frA f)) (hl : f.b.length = 44) (hb : ∀ c ∈ f.b, c < 256) : RowB w (some ⟨g, 5, none⟩) 44 44 f.b :=
  ⟨hl, Nat.le_refl _, by unfold maxLen; omega, hb, fun _ => ⟨g, 5, rfl, fun i hi => (h.cell (5 + i)).trans (frA_body f i (by omega))⟩, fun h => by cases h⟩

end Go.Proofs.Ytdjnfikacjfkkaa
