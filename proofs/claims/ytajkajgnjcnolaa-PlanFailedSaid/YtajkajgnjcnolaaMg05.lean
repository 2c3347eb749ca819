import Derived.Test.YtajkajgnjcnolaaMg04
import Derived.Deep.MidRow
import Derived.OrdersHeld
import Derived.Deep.RegionHeld
/-
  Structs of some ints and, behind them, an array of bytes, as values: how they are laid out, when two are the same, what an argument of their types is. Entries.
-/
namespace Go.Proofs.Ytajkajgnjcnolaa
open Go.RowKit CrcM
set_option linter.unusedVariables false
set_option linter.unnecessarySimpa false
set_option linter.unusedSimpArgs false

/-- Ints, then bytes. -/
def mixL (zs : List Int) (bs : List Nat) : List Value := zs.map (fun z => Value.int .i64 z) ++ bvals bs
def mixA (zs : List Int) (bs : List Nat) : Array Value := (mixL zs bs).toArray

theorem mixL_length (zs : List Int) (bs : List Nat) : (mixL zs bs).length = zs.length + bs.length := by simp [mixL, bvals_length]
theorem mixA_size (zs : List Int) (bs : List Nat) : (mixA zs bs).size = zs.length + bs.length := by simp [mixA, mixL_length]
theorem mixA_one (zs : List Int) (bs : List Nat) : (mixA zs bs).all (·.oneCell') = true := by
  simp only [mixA, Array.all_eq_true_iff_forall_mem, List.mem_toArray]
  intro x hx
  rcases List.mem_append.1 hx with h | h
  · obtain ⟨z, _, rfl⟩ := List.mem_map.1 h; rfl
  · exact bvals_one _ x h
theorem mixA_int (zs : List Int) (bs : List Nat) (i : Nat) (h : i < zs.length) : (mixA zs bs)[i]? = some (.int .i64 (zs.getD i 0)) := by
  simp only [mixA, mixL, List.getElem?_toArray]
  rw [List.getElem?_append_left (by simpa using h)]
  simp [h, List.getD]
theorem mixA_byte (zs : List Int) (bs : List Nat) (i : Nat) (h : i < bs.length) : (mixA zs bs)[zs.length + i]? = some (.int .u8 (bs.getD i 0 : Nat)) := by
  simp only [mixA, mixL, List.getElem?_toArray]
  rw [List.getElem?_append_right (by simp)]
  simpa using bvals_at bs i h
theorem mixA_part (zs : List Int) (bs : List Nat) : (mixA zs bs).extract zs.length (zs.length + bs.length) = bA bs := by
  simp only [mixA, bA, mixL, List.extract_toArray, List.extract_eq_take_drop]
  rw [List.drop_left' (by simp), List.take_of_length_le (by rw [bvals_length]; omega)]

/-- The bytes of such a struct, in memory. -/
theorem mix_range {w : World} {g : Nat} {t : TypeId} {zs : List Int} {bs : List Nat} (h : Blk w g t (mixA zs bs)) : w.rangeAt g zs.length (bvals bs) := by
  intro j v hv
  have hj : j < bs.length := by
    by_cases hj : j < bs.length
    · exact hj
    · rw [List.getElem?_eq_none (by rw [bvals_length]; omega)] at hv; cases hv
  rw [bvals_at bs j hj] at hv
  exact ((h.cell (zs.length + j)).trans (mixA_byte zs bs j hj)).trans hv

/-- The type of such structs: n ints, k bytes. -/
structure MixType (P : Program) (t : TypeId) (n k : Nat) : Prop where
  fields : ∃ (fs : List Field) (fb : Field) (e : TypeId), P.underlying t = some (.struct (fs ++ [fb]).toArray) ∧ fs.length = n ∧ IntFields P 0 fs ∧
    fb.name ≠ "_" ∧ fb.offset = n ∧ P.underlying fb.type = some (.array k e) ∧ P.underlying e = some (.int .u8) ∧ P.cellsOf fb.type = k ∧ P.cellsOf e = 1
  cells : P.cellsOf t = n + k
  stood : P.stoodInHeld t = false
  guard : P.eqGuardType P.depth t = false

theorem run_part_mix {P : Program} (w : World) {t e : TypeId} {n k : Nat} (hu : P.underlying t = some (.array k e)) (hc : P.cellsOf t = k) {zs : List Int} {bs : List Nat} (hz : zs.length = n) (hb : bs.length = k) : (part t (mixA zs bs) n).run P w = .ok (.agg (bA bs)) w := by
  subst hz hb
  obtain ⟨i, hi⟩ := info_of_underlying hu
  have hs := run_sizeOf w hi
  rw [hc] at hs
  simp [part, isAgg, run_underlying hu, hs, mixA_part]

theorem run_equal_mix {P : Program} (w : World) (d : Nat) {t : TypeId} {n k : Nat} (T : MixType P t n k) (zs zs' : List Int) (bs bs' : List Nat) (hz : zs.length = n) (hz' : zs'.length = n) (hb : bs.length = k) (hb' : bs'.length = k) :
    (Op.equalIn (d + 3) t (.agg (mixA zs bs)) (.agg (mixA zs' bs'))).run P w = .ok (decide (zs = zs' ∧ bs = bs')) w := by
  obtain ⟨fs, fb, e, hu, hl, hI, nb, ob, ub, ue, cb, ce⟩ := T.fields
  have hfs : P.fieldsOf t = (fs ++ [fb]).toArray := by simp [Program.fieldsOf, hu]
  rw [run_equalIn_agg w (d + 2) t _ _ (by rw [hfs]; exact hu) T.stood, hfs]
  have b1 : (part fb.type (mixA zs bs) fb.offset).run P w = .ok (.agg (bA bs)) w := by rw [ob]; exact run_part_mix w ub cb hz hb
  have b2 : (part fb.type (mixA zs' bs') fb.offset).run P w = .ok (.agg (bA bs')) w := by rw [ob]; exact run_part_mix w ub cb hz' hb'
  have eb := run_equal_bytes (P := P) w d ub ue ce bs bs' hb hb'
  have rb := run_field w (d + 2) nb b1 b2 eb (fs := []) (rest := true) (by simp [Op.eqFields])
  have r := run_mix_fields w (d + 1) (zs := zs) (zs' := zs') rb fs 0 hI (fun i hi => ⟨by rw [Nat.zero_add]; exact mixA_int zs bs i (by omega), by rw [Nat.zero_add]; exact mixA_int zs' bs' i (by omega)⟩)
  refine (show (Op.eqFields (d + 2) (mixA zs bs) (mixA zs' bs') (fs ++ [fb]).toArray.toList).run P w = _ from r).trans ?_
  congr 1
  rw [Bool.eq_iff_iff]
  simp only [Bool.and_eq_true, decide_eq_true_eq, Bool.and_true, Nat.zero_add, hl]
  exact ⟨fun h => ⟨ints_eq_of_getD hz hz' h.1, h.2⟩, fun h => ⟨fun i _ => by rw [h.1], h.2⟩⟩

theorem run_eql_mix {P : Program} {t : TypeId} {n k : Nat} (T : MixType P t n k) (zs zs' : List Int) (bs bs' : List Nat) (hz : zs.length = n) (hz' : zs'.length = n) (hb : bs.length = k) (hb' : bs'.length = k) (w : World) :
    (binOp .eql t (.agg (mixA zs bs)) (.agg (mixA zs' bs'))).run P w = .ok (.bool (decide (zs = zs' ∧ bs = bs'))) w := by
  rw [run_eql_struct, run_equal_mix w 9997 T zs zs' bs bs' hz hz' hb hb']; rfl
theorem run_neq_mix {P : Program} {t : TypeId} {n k : Nat} (T : MixType P t n k) (zs zs' : List Int) (bs bs' : List Nat) (hz : zs.length = n) (hz' : zs'.length = n) (hb : bs.length = k) (hb' : bs'.length = k) (w : World) :
    (binOp .neq t (.agg (mixA zs bs)) (.agg (mixA zs' bs'))).run P w = .ok (.bool (!decide (zs = zs' ∧ bs = bs'))) w := by
  rw [run_neq_struct, run_equal_mix w 9997 T zs zs' bs bs' hz hz' hb hb']; rfl
theorem run_neq_sector {P : Program} {t : TypeId} {n : Nat} (T : BytesType P t n) (xs ys : List Nat) (hx : xs.length = n) (hy : ys.length = n) (w : World) :
    (binOp .neq t (.agg (bA xs)) (.agg (bA ys))).run P w = .ok (.bool (!decide (xs = ys))) w := by
  obtain ⟨e, h1, h2, h3⟩ := T.under
  rw [run_neq_struct, run_equal_bytes w 9998 h1 h2 h3 xs ys hx hy]; rfl

section
open Go.ChangeShapes Go.WideShapes
variable {H : Type} {enc : TypeId × Value → H} {P : Program} {w : World} {base : Nat} {spare : Nat → Bool} {held : Bool}

theorem open_mixA {r : Reach} {b0 : Nat} {t : TypeId} {n k : Nat} {v : Value} {d : DataW H} {p : List MemPlace} (T : MixType P t n k) (hv : Value.okWide P w r b0 t v) (h : DataW.Trod enc P w base spare held t v d p) :
    ∃ (zs : List Int) (bs : List Nat), v = .agg (mixA zs bs) ∧ zs.length = n ∧ bs.length = k ∧ (∀ z ∈ zs, (Lit.int .i64 z).wf = true) ∧ ∀ c ∈ bs, c < 256 := by
  obtain ⟨fs, fb, e, hu, hl, hI, nb, ob, ub, ue, cb, ce⟩ := T.fields
  obtain ⟨cs, rfl, hsz⟩ := okWide_struct hu hv
  obtain ⟨fuel, hf⟩ := h
  simp only [Value.cells] at hf
  obtain ⟨xs, m, _, _, hlc, hxl, hat⟩ := DataW.trod_struct hu hf
  have hxl' : xs.length = n + 1 := by rw [hxl]; simp [hl]
  have hsome : ∀ i, i < n + 1 → (xs[i]?).isSome = true := fun i hi => by simp [hxl', hi]
  have hint : ∀ f ∈ fs, (DataW.trod enc P w base spare held m f.type ((cs.toList.drop f.offset).take (P.cellsOf f.type))).isSome = true := fun f hf => by
    obtain ⟨i, hi, rfl⟩ := List.getElem_of_mem hf
    rw [hat i _ (by rw [List.getElem?_toArray, List.getElem?_append_left hi, List.getElem?_eq_getElem hi])]
    exact hsome i (by omega)
  obtain ⟨zs, hzl, hwf, hz⟩ := open_intFields fs 0 hI hint
  obtain ⟨y, hy⟩ := Option.isSome_iff_exists.1 (hsome n (by omega))
  have tb := (hat n fb (by rw [List.getElem?_toArray, List.getElem?_append_right (by omega), hl, Nat.sub_self]; rfl)).trans hy
  rw [cb, ob] at tb
  obtain ⟨bs, hb, hbl, hblt⟩ := trod_bytes ub ue ce cb tb
  refine ⟨zs, bs, ?_, hzl.trans hl, hbl, hwf, hblt⟩
  congr 1
  apply Array.ext'
  rw [T.cells] at hlc
  have hn : cs.toList.drop n = bvals bs := by rw [← hb, List.take_of_length_le (by simp at hlc; simp; omega)]
  rw [List.drop_zero, Nat.zero_add, hl, hn] at hz
  rw [hz]; rfl
end

/-- An entry as it reads. -/
structure EnR where
  k : Int
  f : Int
  c : Int
  b : Int
  m : Int
  t : Int
  y : List Nat
  deriving DecidableEq

def enZ (e : EnR) : List Int := [e.k, e.f, e.c, e.b, e.m, e.t]
def enA (e : EnR) : Array Value := mixA (enZ e) e.y
theorem en_eq (e g : EnR) : e = g ↔ enZ e = enZ g ∧ e.y = g.y := by
  cases e; cases g; simp [enZ, and_assoc]

/-- What an argument's entry is. -/
structure EnOk (e : EnR) : Prop where
  len : e.y.length = 32
  lt : ∀ c ∈ e.y, c < 256
  wf : ∀ z ∈ enZ e, (Lit.int .i64 z).wf = true

theorem enA_size {e : EnR} (h : e.y.length = 32) : (enA e).size = 38 := by rw [enA, mixA_size, h]; rfl
theorem enA_one {e : EnR} : (enA e).all (·.oneCell') = true := mixA_one _ _
theorem enA_at0 (e : EnR) : (enA e)[0]? = some (.int .i64 e.k) := mixA_int (enZ e) e.y 0 (by simp [enZ])
theorem enA_at1 (e : EnR) : (enA e)[1]? = some (.int .i64 e.f) := mixA_int (enZ e) e.y 1 (by simp [enZ])
theorem enA_at2 (e : EnR) : (enA e)[2]? = some (.int .i64 e.c) := mixA_int (enZ e) e.y 2 (by simp [enZ])
theorem enA_at3 (e : EnR) : (enA e)[3]? = some (.int .i64 e.b) := mixA_int (enZ e) e.y 3 (by simp [enZ])
theorem enA_at4 (e : EnR) : (enA e)[4]? = some (.int .i64 e.m) := mixA_int (enZ e) e.y 4 (by simp [enZ])
theorem enA_at5 (e : EnR) : (enA e)[5]? = some (.int .i64 e.t) := mixA_int (enZ e) e.y 5 (by simp [enZ])
theorem en_range {w : World} {g : Nat} {t : TypeId} {e : EnR} (h : Blk w g t (enA e)) : w.rangeAt g 6 (bvals e.y) := mix_range (zs := enZ e) h
theorem fr_range {w : World} {g : Nat} {t : TypeId} {f : FrR} (h : Blk w g t (frA f)) : w.rangeAt g 5 (bvals f.b) := mix_range (zs := [f.k, f.z, f.o, f.e, f.s]) h

section
open Go.ChangeShapes Go.WideShapes
variable {H : Type} {enc : TypeId × Value → H} {P : Program} {w : World} {base : Nat} {spare : Nat → Bool} {held : Bool}
theorem open_entryA {r : Reach} {b0 : Nat} {t : TypeId} {v : Value} {d : DataW H} {p : List MemPlace} (T : MixType P t 6 32) (hv : Value.okWide P w r b0 t v) (h : DataW.Trod enc P w base spare held t v d p) :
    ∃ e : EnR, v = .agg (enA e) ∧ EnOk e := by
  obtain ⟨zs, bs, rfl, hz, hb, hwf, hlt⟩ := open_mixA T hv h
  match zs, hz, hwf with
  | [z0, z1, z2, z3, z4, z5], _, hwf => exact ⟨⟨z0, z1, z2, z3, z4, z5, bs⟩, rfl, hb, hlt, hwf⟩
end

section
variable {P : Program} {w : World} {ops : Array Oper} {rest : List Oper} {o : Oper} {a : Act} {Q : Exit → Act → World → Prop}

theorem exec_eql_entry {t : TypeId} (T : MixType P t 6 32) (x y : Operand) (rt : TypeId) (ho : o.op = .binOp .eql t x y rt) (e g : EnR) (hx : a.eval x = .agg (enA e)) (hy : a.eval y = .agg (enA g)) (he : e.y.length = 32) (hg : g.y.length = 32) (b : Bool) (hb : decide (e = g) = b) :
    (execOp a.eval o).run P w = .ok (.value (.bool b)) w := by
  have hb' : decide (enZ e = enZ g ∧ e.y = g.y) = b := by rw [← hb, Bool.eq_iff_iff, decide_eq_true_eq, decide_eq_true_eq, en_eq]
  unfold execOp
  simp only [ho, hx, hy, Sem.run_bind, run_eqGuard_agg w .eql t x y (enA e) (enA g) T.guard, Result.andThen_ok, (show (binOp .eql t (.agg (enA e)) (.agg (enA g))).run P w = _ from run_eql_mix T (enZ e) (enZ g) e.y g.y rfl rfl he hg w), Sem.run_pure, hb']

theorem exec_neq_entry {t : TypeId} (T : MixType P t 6 32) (x y : Operand) (rt : TypeId) (ho : o.op = .binOp .neq t x y rt) (e g : EnR) (hx : a.eval x = .agg (enA e)) (hy : a.eval y = .agg (enA g)) (he : e.y.length = 32) (hg : g.y.length = 32) (b : Bool) (hb : (!decide (e = g)) = b) :
    (execOp a.eval o).run P w = .ok (.value (.bool b)) w := by
  have hb' : (!decide (enZ e = enZ g ∧ e.y = g.y)) = b := by rw [← hb]; congr 1; rw [Bool.eq_iff_iff, decide_eq_true_eq, decide_eq_true_eq, en_eq]
  unfold execOp
  simp only [ho, hx, hy, Sem.run_bind, run_eqGuard_agg w .neq t x y (enA e) (enA g) T.guard, Result.andThen_ok, (show (binOp .neq t (.agg (enA e)) (.agg (enA g))).run P w = _ from run_neq_mix T (enZ e) (enZ g) e.y g.y rfl rfl he hg w), Sem.run_pure, hb']

theorem exec_neq_sector {t : TypeId} {n : Nat} (T : BytesType P t n) (x y : Operand) (rt : TypeId) (ho : o.op = .binOp .neq t x y rt) (xs ys : List Nat) (hx : a.eval x = .agg (bA xs)) (hy : a.eval y = .agg (bA ys)) (hf : xs.length = n) (hg : ys.length = n) (b : Bool) (hb : (!decide (xs = ys)) = b) :
    (execOp a.eval o).run P w = .ok (.value (.bool b)) w := by
  unfold execOp
  simp only [ho, hx, hy, Sem.run_bind, run_eqGuard_agg w .neq t x y (bA xs) (bA ys) T.guard, Result.andThen_ok, run_neq_sector T xs ys hf hg w, Sem.run_pure, hb]

/-- A part of a struct, an array of bytes, is read whole. -/
theorem wpl_load_mid (hw : Region.wanted o (yielded ops a.tmps) = true) (ty : TypeId) (x : Operand) (ho : o.op = .load ty x) (b i : Nat) (hx : a.eval x = .pointer (some ⟨b, i, none⟩)) (bs : List Nat) (d : TypeDesc) (hc : w.rangeAt b i (bvals bs))
    (hu : P.underlying ty = some d) (hd : d.isRow = true) (hi : (P.info? ty).map (·.size) = some (bvals bs).length)
    (h : wpList P ops Q rest (a.put o.dst (.agg (bA bs))) w) : wpList P ops Q (o :: rest) a w := by
  unfold wpList
  rw [if_pos hw]
  exact .inl (wp_load_mid ty x ho b i hx (bvals bs) d hc hu hd hi h)
end

end Go.Proofs.Ytajkajgnjcnolaa

/-
  Contracts of layer 4 (entry), first part: within, fitsKind, Right, the document's Right, and the laws' of.
-/
namespace Go.Proofs.Ytajkajgnjcnolaa
open Go.RowKit CrcM
set_option linter.unusedVariables false
set_option linter.unnecessarySimpa false
set_option linter.unusedSimpArgs false

/-- Has an entry what its kind has? -/
def kindB (e : EnR) : Bool :=
  if e.k = 1 then wB e.c 1 4 && decide (e.m = 0)
  else if e.k = 2 then decide (e.c = 1) && wB e.m 1 (256 - e.b) && decide (e.y = zeros 32)
  else if e.k = 3 then decide (e.c = 1) && decide (e.m = 0)
  else false

/-- May an entry be? -/
def rB (e : EnR) : Bool := wB e.f 0 281474976710655 && wB e.b 0 255 && wB e.t 0 65535 && kindB e

theorem rB_iff (e : EnR) : rB e = true ↔ (0 ≤ e.f ∧ e.f ≤ 281474976710655) ∧ (0 ≤ e.b ∧ e.b ≤ 255) ∧ (0 ≤ e.t ∧ e.t ≤ 65535) ∧
    ((e.k = 1 ∧ (1 ≤ e.c ∧ e.c ≤ 4) ∧ e.m = 0) ∨ (e.k = 2 ∧ e.c = 1 ∧ (1 ≤ e.m ∧ e.m ≤ 256 - e.b) ∧ e.y = zeros 32) ∨ (e.k = 3 ∧ e.c = 1 ∧ e.m = 0)) := by
  unfold rB kindB
  by_cases h1 : e.k = 1
  · simp [h1, wB_iff, and_assoc]
  · by_cases h2 : e.k = 2
    · simp [h2, wB_iff, and_assoc]
    · by_cases h3 : e.k = 3
      · simp [h3, wB_iff, and_assoc]
      · simp [h1, h2, h3]

end Go.Proofs.Ytajkajgnjcnolaa

/-
  Contracts of layer 4 (entry), second part: the document's Right, and the laws' of.
-/
namespace Go.Proofs.Ytajkajgnjcnolaa
open Go.RowKit CrcM
set_option linter.unusedVariables false
set_option linter.unnecessarySimpa false
set_option linter.unusedSimpArgs false

theorem list_as {y : List Nat} {n : Nat} (h : y.length = n) : ∃ g : Nat → Nat, y = (List.range n).map g := by
  refine ⟨fun i => y.getD i 0, ?_⟩
  apply List.ext_getElem (by simp [h])
  intro i h1 h2
  simp [List.getD, h1]

/-- The empty entry. -/
def en0 : EnR := ⟨0, 0, 0, 0, 0, 0, zeros 32⟩
theorem en0_len : en0.y.length = 32 := zeros_length 32
end Go.Proofs.Ytajkajgnjcnolaa

/-
  Contracts of layer 4 (entry), third part: write and Body.
-/
namespace Go.Proofs.Ytajkajgnjcnolaa
open Go.RowKit CrcM
set_option linter.unusedVariables false
set_option linter.unnecessarySimpa false
set_option linter.unusedSimpArgs false

/-- All that an entry has, as its body has it, if it fits. -/
def eO (e : EnR) : Option (List Nat) := pBytes (pNum (pNum (pNum (pNum (pNum (some []) 6 e.f) 1 e.c) 1 e.b) 2 e.m) 2 e.t) e.y
/-- .. of a right entry. -/
def ebod (e : EnR) : List Nat := leb 6 e.f.toNat ++ leb 1 e.c.toNat ++ leb 1 e.b.toNat ++ leb 2 e.m.toNat ++ leb 2 e.t.toNat ++ e.y

theorem rB_ranges {e : EnR} (h : rB e = true) : (0 ≤ e.f ∧ e.f ≤ 281474976710655) ∧ (0 ≤ e.b ∧ e.b ≤ 255) ∧ (0 ≤ e.t ∧ e.t ≤ 65535) ∧ (1 ≤ e.c ∧ e.c ≤ 4) ∧ (0 ≤ e.m ∧ e.m ≤ 256) := by
  obtain ⟨h1, h2, h3, h4⟩ := (rB_iff e).1 h
  exact ⟨h1, h2, h3, by omega, by omega⟩

theorem eO_right {e : EnR} (h : rB e = true) : eO e = some (ebod e) := by
  obtain ⟨⟨h1, h2⟩, ⟨h3, h4⟩, ⟨h5, h6⟩, ⟨h7, h8⟩, h9, h10⟩ := rB_ranges h
  unfold eO pNum pBytes
  rw [show fitB 6 e.f = true from fit_of (k := 6) (by omega) (by omega) (by omega), show fitB 1 e.c = true from fit_of (k := 1) (by omega) (by omega) (by omega), show fitB 1 e.b = true from fit_of (k := 1) (by omega) (by omega) (by omega),
    show fitB 2 e.m = true from fit_of (k := 2) (by omega) (by omega) (by omega), show fitB 2 e.t = true from fit_of (k := 2) (by omega) (by omega) (by omega)]
  simp [ebod]
theorem ebod_length {e : EnR} (h : e.y.length = 32) : (ebod e).length = 44 := by simp [ebod, leb_length, h]
theorem ebod_lt {e : EnR} (h : ∀ c ∈ e.y, c < 256) : ∀ c ∈ ebod e, c < 256 := by
  intro c hc
  simp only [ebod, List.mem_append] at hc
  rcases hc with ((((h1 | h1) | h1) | h1) | h1) | h1
  all_goals first | exact leb_lt _ _ c h1 | exact h c h1

theorem en_row {w : World} {g : Nat} {t : TypeId} {e : EnR} (h : Blk w g t (enA e)) (hl : e.y.length = 32) (hb : ∀ c ∈ e.y, c < 256) : RowB w (some ⟨g, 6, none⟩) 32 32 e.y :=
  ⟨hl, Nat.le_refl _, by unfold maxLen; omega, hb, fun _ => ⟨g, 6, rfl, fun i hi => (h.cell (6 + i)).trans (mixA_byte (enZ e) e.y i (by omega))⟩, fun h => by cases h⟩

theorem wpl_copy_at {P : Program} {w : World} {ops : Array Oper} {rest : List Oper} {o : Oper} {a : Act} {Q : Exit → Act → World → Prop} (hgd : o.guard = none) (d s : Operand) (dT sT : TypeId) (ho : o.op = .call { callee := .builtin .copy, args := #[d, s], argTypes := #[dT, sT] }) {elem : TypeId} (hu : P.underlying dT = some (.slice elem)) (hsz : (P.info? elem).map (·.size) = some 1)
    (g off dLen dCap : Nat) (cur : List Value) (t : TypeId) (hg : Blk w g t cur.toArray) (hd : a.eval d = .slice (some ⟨g, off, none⟩) dLen dCap) (hfit : off + dLen ≤ cur.length) (sp : Option Addr) (sLen sCap : Nat) (bs : List Nat) (hs : a.eval s = .slice sp sLen sCap) (hrow : RowB w sp sLen sCap bs)
    (h : ∀ w', Blk w' g t (splice cur off (bvals (bs.take dLen))).toArray → Below g w w' → wpList P ops Q rest (a.put o.dst (goInt (min sLen dLen : Nat))) w') : wpList P ops Q (o :: rest) a w :=
  wpList_plain hgd fun _ hK => wp_copy_at hgd d s dT sT ho hu hsz g off dLen dCap cur t hg hd hfit sp sLen sCap bs hs hrow (fun w' h1 h2 => hK _ _ (h w' h1 h2))

/-- A body, and an error or none. -/
def BodP (bs : List Nat) (x : Int) (w : World) (en : Ending) (w' : World) : Prop := en = .returned (.tuple #[.agg (bA bs), .int .i64 x]) ∧ Below w.heap.size w w'

/-- What Body tells. -/
def bodV (e : EnR) : List Nat := if rB e = true then ebod e else zeros 44
def bodE (e : EnR) : Int := if rB e = true then 0 else 10
theorem bodV_length {e : EnR} (h : e.y.length = 32) : (bodV e).length = 44 := by
  unfold bodV; split
  · exact ebod_length h
  · exact zeros_length 44
theorem bodV_lt {e : EnR} (h : ∀ c ∈ e.y, c < 256) : ∀ c ∈ bodV e, c < 256 := by
  unfold bodV; split
  · exact ebod_lt h
  · exact zeros_lt 44
theorem bodV_ok {e : EnR} (h : rB e = true) : bodV e = ebod e := if_pos h
theorem bodE_ok {e : EnR} (h : rB e = true) : bodE e = 0 := if_pos h
theorem bodV_bad {e : EnR} (h : rB e = false) : bodV e = zeros 44 := if_neg (by rw [h]; decide)
theorem bodE_bad {e : EnR} (h : rB e = false) : bodE e = 10 := if_neg (by rw [h]; decide)
end Go.Proofs.Ytajkajgnjcnolaa

/-
  Contracts of layer 4 (entry), fourth part: said.
-/
namespace Go.Proofs.Ytajkajgnjcnolaa
open Go.RowKit CrcM
set_option linter.unusedVariables false
set_option linter.unnecessarySimpa false
set_option linter.unusedSimpArgs false

/-- What a body says of that which its kind has. -/
def sd (k : Int) (bs : List Nat) : EnR := ⟨k, (num ((bs.drop 0).take 6) : Nat), (num ((bs.drop 6).take 1) : Nat), (num ((bs.drop 7).take 1) : Nat), if k = 2 then (num ((bs.drop 8).take 2) : Nat) else 0, (num ((bs.drop 10).take 2) : Nat), if k = 2 then zeros 32 else (bs.drop 12).take 32⟩
theorem sd_trim (bs : List Nat) : sd 2 bs = ⟨2, (num ((bs.drop 0).take 6) : Nat), (num ((bs.drop 6).take 1) : Nat), (num ((bs.drop 7).take 1) : Nat), (num ((bs.drop 8).take 2) : Nat), (num ((bs.drop 10).take 2) : Nat), zeros 32⟩ := rfl
theorem sd_other {k : Int} (h : k ≠ 2) (bs : List Nat) : sd k bs = ⟨k, (num ((bs.drop 0).take 6) : Nat), (num ((bs.drop 6).take 1) : Nat), (num ((bs.drop 7).take 1) : Nat), 0, (num ((bs.drop 10).take 2) : Nat), (bs.drop 12).take 32⟩ := by unfold sd; rw [if_neg h, if_neg h]
theorem sd_len {k : Int} {bs : List Nat} (h : bs.length = 44) : (sd k bs).y.length = 32 := by
  unfold sd; simp only; split
  · exact zeros_length 32
  · simp [h]
theorem sd_lt {k : Int} {bs : List Nat} (h : ∀ c ∈ bs, c < 256) : ∀ c ∈ (sd k bs).y, c < 256 := by
  unfold sd; simp only; split
  · exact zeros_lt 32
  · exact fun c hc => h c (List.mem_of_mem_drop (List.mem_of_mem_take hc))

theorem enA_set0 (e : EnR) (x : Int) : (enA e).setIfInBounds 0 (.int .i64 x) = enA { e with k := x } := by simp [enA, mixA, mixL, enZ]
theorem enA_set1 (e : EnR) (x : Int) : (enA e).setIfInBounds 1 (.int .i64 x) = enA { e with f := x } := by simp [enA, mixA, mixL, enZ]
theorem enA_set2 (e : EnR) (x : Int) : (enA e).setIfInBounds 2 (.int .i64 x) = enA { e with c := x } := by simp [enA, mixA, mixL, enZ]
theorem enA_set3 (e : EnR) (x : Int) : (enA e).setIfInBounds 3 (.int .i64 x) = enA { e with b := x } := by simp [enA, mixA, mixL, enZ]
theorem enA_set4 (e : EnR) (x : Int) : (enA e).setIfInBounds 4 (.int .i64 x) = enA { e with m := x } := by simp [enA, mixA, mixL, enZ]
theorem enA_set5 (e : EnR) (x : Int) : (enA e).setIfInBounds 5 (.int .i64 x) = enA { e with t := x } := by simp [enA, mixA, mixL, enZ]
theorem enA_body (e : EnR) (xs : List Nat) (hf : e.y.length = 32) (hx : xs.length = 32) : (splice (mixL (enZ e) e.y) 6 (bvals xs)).toArray = enA { e with y := xs } := by
  unfold splice enA mixA mixL
  rw [List.take_append_of_le_length (by simp [enZ]), List.drop_of_length_le (by simp [bvals_length, enZ, hf, hx])]
  simp [enZ]

/-- What said tells. -/
def SaidP (e : EnR) (w : World) (en : Ending) (w' : World) : Prop := en = .returned (.agg (enA e)) ∧ Below w.heap.size w w'

end Go.Proofs.Ytajkajgnjcnolaa

/-
  Contracts of layer 4 (entry), fifth part: Of, among, Frame, Read and Fill.
-/
namespace Go.Proofs.Ytajkajgnjcnolaa
open Go.RowKit CrcM
set_option linter.unusedVariables false
set_option linter.unnecessarySimpa false
set_option linter.unusedSimpArgs false

/-- An entry, and an error or none. -/
def EnP (e : EnR) (x : Int) (w : World) (en : Ending) (w' : World) : Prop := en = .returned (.tuple #[.agg (enA e), .int .i64 x]) ∧ Below w.heap.size w w'

/-- Is a body an entry's of a kind? -/
def ofB (k : Int) (bs : List Nat) : Bool := rB (sd k bs) && decide (ebod (sd k bs) = bs)
def ofV (k : Int) (bs : List Nat) : EnR := if ofB k bs = true then sd k bs else en0
def ofE (k : Int) (bs : List Nat) : Int := if ofB k bs = true then 0 else 10
theorem ofV_ok {k : Int} {bs : List Nat} (h : ofB k bs = true) : ofV k bs = sd k bs := if_pos h
theorem ofE_ok {k : Int} {bs : List Nat} (h : ofB k bs = true) : ofE k bs = 0 := if_pos h
theorem ofV_bad {k : Int} {bs : List Nat} (h : ofB k bs = false) : ofV k bs = en0 := if_neg (by rw [h]; decide)
theorem ofE_bad {k : Int} {bs : List Nat} (h : ofB k bs = false) : ofE k bs = 10 := if_neg (by rw [h]; decide)
theorem ofV_len {k : Int} {bs : List Nat} (h : bs.length = 44) : (ofV k bs).y.length = 32 := by
  unfold ofV; split
  · exact sd_len h
  · exact en0_len
theorem ofV_lt {k : Int} {bs : List Nat} (h : ∀ c ∈ bs, c < 256) : ∀ c ∈ (ofV k bs).y, c < 256 := by
  unfold ofV; split
  · exact sd_lt h
  · exact zeros_lt 32
/-- Is s one of an entry's numbers? -/
def amB (e : EnR) (s : Int) : Bool := decide (e.f ≤ s) && decide (s - e.f < e.c)

/-- A filled block. -/
def fillL (x : Nat) : List Nat := List.replicate 32 x
theorem fillL_len (x : Nat) : (fillL x).length = 32 := by simp [fillL]
theorem fillL_lt {x : Nat} (h : x < 256) : ∀ c ∈ fillL x, c < 256 := by intro c hc; rw [(List.mem_replicate.1 hc).2]; exact h
theorem fill_set (x j : Nat) (hj : j < 32) : (List.replicate j x ++ zeros (32 - j)).set j x = List.replicate (j + 1) x ++ zeros (32 - (j + 1)) := by
  rw [List.set_append_right _ _ (by simp), List.length_replicate, Nat.sub_self, List.replicate_succ', List.append_assoc]
  congr 1
  have e : zeros (32 - j) = 0 :: zeros (32 - (j + 1)) := by
    unfold zeros; rw [show 32 - j = (32 - (j + 1)) + 1 by omega, List.replicate_succ]
  rw [e, List.set_cons_zero]
  rfl

end Go.Proofs.Ytajkajgnjcnolaa

/-
  Contracts of layer 4 (entry), sixth part: Frame and Read.
-/
namespace Go.Proofs.Ytajkajgnjcnolaa
open Go.RowKit CrcM
set_option linter.unusedVariables false
set_option linter.unnecessarySimpa false
set_option linter.unusedSimpArgs false

/-- Has an entry a frame there? -/
def frmB (e : EnR) (z o ep sq : Int) : Bool := rB e && amB e sq && rightB ⟨e.k, z, o, ep, sq, ebod e⟩
def frmV (e : EnR) (z o ep sq : Int) : FrR := if frmB e z o ep sq = true then ⟨e.k, z, o, ep, sq, ebod e⟩ else fr0
def frmE (e : EnR) (z o ep sq : Int) : Int := if frmB e z o ep sq = true then 0 else 10
theorem frmV_ok {e : EnR} {z o ep sq : Int} (h : frmB e z o ep sq = true) : frmV e z o ep sq = ⟨e.k, z, o, ep, sq, ebod e⟩ := if_pos h
theorem frmE_ok {e : EnR} {z o ep sq : Int} (h : frmB e z o ep sq = true) : frmE e z o ep sq = 0 := if_pos h
theorem frmV_bad {e : EnR} {z o ep sq : Int} (h : frmB e z o ep sq = false) : frmV e z o ep sq = fr0 := if_neg (by rw [h]; decide)
theorem frmE_bad {e : EnR} {z o ep sq : Int} (h : frmB e z o ep sq = false) : frmE e z o ep sq = 10 := if_neg (by rw [h]; decide)
theorem frmV_len {e : EnR} {z o ep sq : Int} (h : e.y.length = 32) : (frmV e z o ep sq).b.length = 44 := by
  unfold frmV; split
  · exact ebod_length h
  · exact fr0_len
/-- Is a frame an entry's? -/
def rdB (f : FrR) : Bool := ofB f.k f.b && frmB (sd f.k f.b) f.z f.o f.e f.s
def rdV (f : FrR) : EnR := if rdB f = true then sd f.k f.b else en0
def rdE (f : FrR) : Int := if rdB f = true then 0 else 10
theorem rdV_ok {f : FrR} (h : rdB f = true) : rdV f = sd f.k f.b := if_pos h
theorem rdE_ok {f : FrR} (h : rdB f = true) : rdE f = 0 := if_pos h
theorem rdV_bad {f : FrR} (h : rdB f = false) : rdV f = en0 := if_neg (by rw [h]; decide)
theorem rdE_bad {f : FrR} (h : rdB f = false) : rdE f = 10 := if_neg (by rw [h]; decide)
end Go.Proofs.Ytajkajgnjcnolaa

/-
  Layer 4 (entry), seventh part: the document's Body.
-/
namespace Go.Proofs.Ytajkajgnjcnolaa
open Go.RowKit CrcM
set_option linter.unusedVariables false
set_option linter.unnecessarySimpa false
set_option linter.unusedSimpArgs false

theorem OwnAt.nil (wb : World) : OwnAt wb wb (.slice none 0 0) [] := ⟨⟨by simp [bvals], .inl ⟨rfl, rfl⟩⟩, Below.refl _ _, by simp⟩

theorem fill_row (n : Nat) (R : List Nat) (j : Nat) (hj : j < n) (h : R.length = n) : (R.take j ++ zeros (n - j)).set j (R.getD j 0) = R.take (j + 1) ++ zeros (n - (j + 1)) := by
  have hl : (R.take j).length = j := by rw [List.length_take, h]; omega
  rw [List.set_append_right _ _ (by omega), hl, Nat.sub_self, take_snoc_nat R j (by omega), List.append_assoc]
  congr 1
  have e : zeros (n - j) = 0 :: zeros (n - (j + 1)) := by
    unfold zeros; rw [show n - j = (n - (j + 1)) + 1 by omega, List.replicate_succ]
  rw [e, List.set_cons_zero]
  rfl

end Go.Proofs.Ytajkajgnjcnolaa

/-
  Layer 4 (entry), eighth part: the document's Of.
-/
namespace Go.Proofs.Ytajkajgnjcnolaa
open Go.RowKit CrcM
set_option linter.unusedVariables false
set_option linter.unnecessarySimpa false
set_option linter.unusedSimpArgs false

/-- What a body says, all of it, right or not. -/
def doc (k : Int) (bs : List Nat) : EnR := ⟨k, (num (bs.take 6) : Nat), (num ((bs.drop 6).take 1) : Nat), (num ((bs.drop 7).take 1) : Nat), (num ((bs.drop 8).take 2) : Nat), (num ((bs.drop 10).take 2) : Nat), (bs.drop 12).take 32⟩
theorem doc_len {k : Int} {bs : List Nat} (h : bs.length = 44) : (doc k bs).y.length = 32 := by simp [doc, h]
theorem doc_lt {k : Int} {bs : List Nat} (h : ∀ c ∈ bs, c < 256) : ∀ c ∈ (doc k bs).y, c < 256 := fun c hc => h c (List.mem_of_mem_drop (List.mem_of_mem_take hc))

theorem row_midN {w : World} {g n : Nat} {bs : List Nat} (h : RowB w (some ⟨g, 0, none⟩) n n bs) (lo hi : Nat) (h1 : lo ≤ hi) (h2 : hi < n) : RowB w (some ⟨g, lo, none⟩) (hi - lo) (n - lo) ((bs.drop lo).take (hi - lo)) := by
  have h3 := (h.from lo (by omega)).to (hi - lo) (by omega)
  have e : slAddr (some ⟨g, 0, none⟩) n lo = some ⟨g, lo, none⟩ := by unfold slAddr; rw [if_neg (by omega)]; simp [Addr.add_mid]
  rw [e] at h3
  exact h3

theorem enA_setY (e : EnR) (j c : Nat) (hj : j < e.y.length) : (enA e).setIfInBounds (6 + j) (.int .u8 (c : Nat)) = enA { e with y := e.y.set j c } := by
  unfold enA mixA mixL enZ
  rw [List.setIfInBounds_toArray, List.set_append_right _ _ (by simp), ← bvals_set]
  simp

/-- Is a body an entry's of a kind, by the document? -/
def rofB (k : Int) (bs : List Nat) : Bool := rB (doc k bs)
def rofV (k : Int) (bs : List Nat) : EnR := if rofB k bs = true then doc k bs else en0
theorem rofV_ok {k : Int} {bs : List Nat} (h : rofB k bs = true) : rofV k bs = doc k bs := if_pos h
theorem rofV_bad {k : Int} {bs : List Nat} (h : rofB k bs = false) : rofV k bs = en0 := if_neg (by rw [h]; decide)

/-- What the document's Of tells. -/
def RofP (e : EnR) (b : Bool) (w : World) (en : Ending) (w' : World) : Prop := en = .returned (.tuple #[.agg (enA e), .bool b]) ∧ Below w.heap.size w w'

end Go.Proofs.Ytajkajgnjcnolaa

/-
  Layer 4 (entry), ninth part: plain facts of entries and their bodies.
-/
namespace Go.Proofs.Ytajkajgnjcnolaa
open Go.RowKit CrcM
set_option linter.unusedVariables false
set_option linter.unnecessarySimpa false
set_option linter.unusedSimpArgs false

theorem num_inj2 : ∀ xs ys : List Nat, xs.length = ys.length → (∀ c ∈ xs, c < 256) → (∀ c ∈ ys, c < 256) → num xs = num ys → xs = ys
  | [], [], _, _, _, _ => rfl
  | [], _ :: _, h, _, _, _ => by simp at h
  | _ :: _, [], h, _, _, _ => by simp at h
  | x :: xs, y :: ys, h, hx, hy, hn => by
    have h1 : x + 256 * num xs = y + 256 * num ys := hn
    have hx0 := hx x (by simp)
    have hy0 := hy y (by simp)
    have e : x = y := by omega
    subst e
    rw [num_inj2 xs ys (by simpa using h) (fun c hc => hx c (by simp [hc])) (fun c hc => hy c (by simp [hc])) (by omega)]

theorem leb_of_num (xs : List Nat) (n : Nat) (h : xs.length = n) (hb : ∀ c ∈ xs, c < 256) : leb n (num xs) = xs := by
  refine num_inj2 _ _ (by rw [leb_length, h]) (leb_lt _ _) hb ?_
  rw [leb_num]
  exact Nat.mod_eq_of_lt (by have := num_lt xs hb; rwa [h] at this)

theorem ebod_f (e : EnR) : (ebod e).take 6 = leb 6 e.f.toNat := by
  have h := part_mid [] (leb 6 e.f.toNat) (leb 1 e.c.toNat ++ leb 1 e.b.toNat ++ leb 2 e.m.toNat ++ leb 2 e.t.toNat ++ e.y) 0 6 rfl (by simp [leb_length])
  simpa [ebod, List.append_assoc] using h
theorem ebod_c (e : EnR) : ((ebod e).drop 6).take 1 = leb 1 e.c.toNat := by
  have h := part_mid (leb 6 e.f.toNat) (leb 1 e.c.toNat) (leb 1 e.b.toNat ++ leb 2 e.m.toNat ++ leb 2 e.t.toNat ++ e.y) 6 1 (by simp [leb_length]) (by simp [leb_length])
  simpa [ebod, List.append_assoc] using h
theorem ebod_b (e : EnR) : ((ebod e).drop 7).take 1 = leb 1 e.b.toNat := by
  have h := part_mid (leb 6 e.f.toNat ++ leb 1 e.c.toNat) (leb 1 e.b.toNat) (leb 2 e.m.toNat ++ leb 2 e.t.toNat ++ e.y) 7 1 (by simp [leb_length]) (by simp [leb_length])
  simpa [ebod, List.append_assoc] using h
theorem ebod_m (e : EnR) : ((ebod e).drop 8).take 2 = leb 2 e.m.toNat := by
  have h := part_mid (leb 6 e.f.toNat ++ leb 1 e.c.toNat ++ leb 1 e.b.toNat) (leb 2 e.m.toNat) (leb 2 e.t.toNat ++ e.y) 8 2 (by simp [leb_length]) (by simp [leb_length])
  simpa [ebod, List.append_assoc] using h
theorem ebod_t (e : EnR) : ((ebod e).drop 10).take 2 = leb 2 e.t.toNat := by
  have h := part_mid (leb 6 e.f.toNat ++ leb 1 e.c.toNat ++ leb 1 e.b.toNat ++ leb 2 e.m.toNat) (leb 2 e.t.toNat) e.y 10 2 (by simp [leb_length]) (by simp [leb_length])
  simpa [ebod, List.append_assoc] using h
theorem ebod_y (e : EnR) (h : e.y.length = 32) : ((ebod e).drop 12).take 32 = e.y := by
  have h := part_mid (leb 6 e.f.toNat ++ leb 1 e.c.toNat ++ leb 1 e.b.toNat ++ leb 2 e.m.toNat ++ leb 2 e.t.toNat) e.y [] 12 32 (by simp [leb_length]) h
  simpa [ebod, List.append_assoc] using h

theorem doc_ebod (e : EnR) (hr : rB e = true) (hl : e.y.length = 32) : doc e.k (ebod e) = e := by
  obtain ⟨⟨h1, h2⟩, ⟨h3, h4⟩, ⟨h5, h6⟩, ⟨h7, h8⟩, h9, h10⟩ := rB_ranges hr
  unfold doc
  rw [ebod_f, ebod_c, ebod_b, ebod_m, ebod_t, ebod_y e hl, num_back 6 e.f h1 (by omega), num_back 1 e.c (by omega) (by omega), num_back 1 e.b h3 (by omega), num_back 2 e.m h9 (by omega), num_back 2 e.t h5 (by omega)]

theorem parts_all (bs : List Nat) (h : bs.length = 44) : bs.take 6 ++ (bs.drop 6).take 1 ++ (bs.drop 7).take 1 ++ (bs.drop 8).take 2 ++ (bs.drop 10).take 2 ++ (bs.drop 12).take 32 = bs := by
  have step : ∀ j k, bs.take j ++ (bs.drop j).take k = bs.take (j + k) := fun j k => by
    rw [List.take_add]
  rw [step 6 1, step 7 1, step 8 2, step 10 2, step 12 32]
  exact List.take_of_length_le (by omega)

theorem ebod_doc (k : Int) (bs : List Nat) (hl : bs.length = 44) (hb : ∀ c ∈ bs, c < 256) : ebod (doc k bs) = bs := by
  have back : ∀ j n, j + n ≤ 44 → leb n (num ((bs.drop j).take n)) = (bs.drop j).take n := fun j n h =>
    leb_of_num _ n (by rw [List.length_take, List.length_drop, hl]; omega) (fun c hc => hb c (List.mem_of_mem_drop (List.mem_of_mem_take hc)))
  unfold ebod doc
  simp only [Int.toNat_natCast]
  rw [show leb 6 (num (bs.take 6)) = bs.take 6 from back 0 6 (by decide), back 6 1 (by decide), back 7 1 (by decide), back 8 2 (by decide), back 10 2 (by decide)]
  exact parts_all bs hl

theorem doc_k (k : Int) (bs : List Nat) : (doc k bs).k = k := rfl
theorem sd_k (k : Int) (bs : List Nat) : (sd k bs).k = k := rfl

theorem sd_doc {k : Int} {bs : List Nat} (h : rofB k bs = true) : sd k bs = doc k bs := by
  obtain ⟨_, _, _, h4⟩ := (rB_iff _).1 h
  by_cases hk : k = 2
  · subst hk
    have hy : (doc 2 bs).y = zeros 32 := by
      rcases h4 with h | h | h
      · exact absurd h.1 (by rw [doc_k]; decide)
      · exact h.2.2.2
      · exact absurd h.1 (by rw [doc_k]; decide)
    rw [sd_trim, ← hy]; rfl
  · have hm : (doc k bs).m = 0 := by
      rcases h4 with h | h | h
      · exact h.2.2
      · exact absurd h.1 hk
      · exact h.2.2
    rw [sd_other hk, ← hm]; rfl

theorem of_doc {k : Int} {bs : List Nat} (hl : bs.length = 44) (h : ofB k bs = true) : sd k bs = doc k bs ∧ rofB k bs = true := by
  unfold ofB at h
  simp only [Bool.and_eq_true, decide_eq_true_eq] at h
  have e := doc_ebod (sd k bs) h.1 (sd_len hl)
  rw [h.2, sd_k] at e
  exact ⟨e.symm, by unfold rofB; rw [e]; exact h.1⟩

theorem of_eq (k : Int) (bs : List Nat) (hl : bs.length = 44) (hb : ∀ c ∈ bs, c < 256) : ofB k bs = rofB k bs := by
  cases h : rofB k bs with
  | true =>
    have e := sd_doc h
    unfold ofB
    rw [e, show rB (doc k bs) = true from h, decide_eq_true (ebod_doc k bs hl hb)]
    rfl
  | false =>
    cases h' : ofB k bs with
    | false => rfl
    | true => rw [(of_doc hl h').2] at h; cases h

theorem ofV_eq (k : Int) (bs : List Nat) (hl : bs.length = 44) (hb : ∀ c ∈ bs, c < 256) : ofV k bs = rofV k bs := by
  cases h : rofB k bs with
  | true => rw [ofV_ok ((of_eq k bs hl hb).trans h), rofV_ok h, sd_doc h]
  | false => rw [ofV_bad ((of_eq k bs hl hb).trans h), rofV_bad h]

/-- A right entry is read from its body. -/
theorem rof_ebod {e : EnR} (hr : rB e = true) (hl : e.y.length = 32) : rofB e.k (ebod e) = true := by
  unfold rofB; rw [doc_ebod e hr hl]; exact hr
theorem of_ebod {e : EnR} (hr : rB e = true) (hl : e.y.length = 32) (hb : ∀ c ∈ e.y, c < 256) : ofB e.k (ebod e) = true ∧ sd e.k (ebod e) = e := by
  have h := rof_ebod hr hl
  exact ⟨(of_eq _ _ (ebod_length hl) (ebod_lt hb)).trans h, (sd_doc h).trans (doc_ebod e hr hl)⟩

theorem ebod_inj {e g : EnR} (he : rB e = true) (hg : rB g = true) (hk : e.k = g.k) (hle : e.y.length = 32) (hlg : g.y.length = 32) : ebod e = ebod g ↔ e = g := by
  constructor
  · intro h
    have h1 := doc_ebod e he hle
    rw [h, hk, doc_ebod g hg hlg] at h1
    exact h1.symm
  · rintro rfl; rfl

/-- What a frame of an entry is read as. -/
theorem rd_frm {e : EnR} {z o ep sq : Int} (h : frmB e z o ep sq = true) (hl : e.y.length = 32) (hb : ∀ c ∈ e.y, c < 256) : rdB (frmV e z o ep sq) = true ∧ rdV (frmV e z o ep sq) = e := by
  rw [frmV_ok h]
  have hr : rB e = true := by unfold frmB at h; simp only [Bool.and_eq_true] at h; exact h.1.1
  obtain ⟨h1, h2⟩ := of_ebod hr hl hb
  have hh : rdB ⟨e.k, z, o, ep, sq, ebod e⟩ = true := by unfold rdB; rw [h1, h2]; exact h
  exact ⟨hh, by rw [rdV_ok hh]; exact h2⟩

/-- Which frames are an entry's. -/
theorem rdB_eq (f : FrR) (hl : f.b.length = 44) (hb : ∀ c ∈ f.b, c < 256) : rdB f = (rofB f.k f.b && amB (doc f.k f.b) f.s && rightB f) := by
  unfold rdB
  rw [of_eq _ _ hl hb]
  cases h : rofB f.k f.b with
  | false => rfl
  | true =>
    rw [sd_doc h]
    unfold frmB
    rw [show rB (doc f.k f.b) = true from h, doc_k, ebod_doc _ _ hl hb]
    rfl

theorem frm_rd {f : FrR} (h : rdB f = true) (hl : f.b.length = 44) (hb : ∀ c ∈ f.b, c < 256) : rdV f = rofV f.k f.b ∧ frmB (rdV f) f.z f.o f.e f.s = true ∧ frmV (rdV f) f.z f.o f.e f.s = f := by
  have h0 := h
  unfold rdB at h
  simp only [Bool.and_eq_true] at h
  have h1 := (of_eq _ _ hl hb).symm.trans h.1
  rw [rdV_ok h0]
  refine ⟨by rw [rofV_ok h1]; exact sd_doc h1, h.2, ?_⟩
  rw [frmV_ok h.2, sd_k, sd_doc h1, ebod_doc _ _ hl hb]

end Go.Proofs.Ytajkajgnjcnolaa

/-
  Layer 4 (entry), tenth part: the laws' anchor.
-/
namespace Go.Proofs.Ytajkajgnjcnolaa
open Go.RowKit CrcM
set_option linter.unusedVariables false
set_option linter.unnecessarySimpa false
set_option linter.unusedSimpArgs false

/-- The anchor's entry. -/
def enM : EnR := ⟨2, 5, 1, 9, 1, 0, zeros 32⟩
theorem enM_len : enM.y.length = 32 := zeros_length 32
theorem enM_lt : ∀ c ∈ enM.y, c < 256 := zeros_lt 32
theorem enM_right : rB enM = true := by decide +kernel
theorem enM_frame : frmB enM 3 4 1 5 = true := by decide +kernel

end Go.Proofs.Ytajkajgnjcnolaa

/-
  A part of a struct, an array of bytes, is written whole. No Go text here.
-/
namespace Go.Proofs.Ytajkajgnjcnolaa
open Go.RowKit CrcM
set_option linter.unusedVariables false
set_option linter.unnecessarySimpa false
set_option linter.unusedSimpArgs false

theorem splice_cons (L : List Value) (o : Nat) (v : Value) (r : List Value) (h : o + (v :: r).length ≤ L.length) : splice (L.set o v) (o + 1) r = splice L o (v :: r) := by
  simp only [List.length_cons] at h
  unfold splice
  have h1 : (L.set o v).take (o + 1) = L.take o ++ [v] := by
    rw [List.take_add_one, List.take_set_of_le (Nat.le_refl o), List.getElem?_set_self (by omega)]
    rfl
  have h2 : (L.set o v).drop (o + 1 + r.length) = L.drop (o + (v :: r).length) := by
    rw [List.drop_set_of_lt (by omega), List.length_cons]
    congr 1; omega
  rw [h1, h2]
  simp

theorem blk_setCells {g : Nat} {t : TypeId} : ∀ (vs : List Value) (o : Nat) (w : World) (L : List Value), Blk w g t L.toArray → o + vs.length ≤ L.length → Blk (w.setCells g o vs) g t (splice L o vs).toArray
  | [], o, w, L, h, _ => by simpa [splice, World.setCells] using h
  | v :: r, o, w, L, h, hf => by
    have h1 := h.set o v
    rw [List.setIfInBounds_toArray] at h1
    have h2 := blk_setCells r (o + 1) _ (L.set o v) h1 (by simp only [List.length_cons, List.length_set] at *; omega)
    rw [splice_cons L o v r hf] at h2
    exact h2

theorem kept_setCells {g : Nat} {w0 : World} : ∀ (vs : List Value) (o : Nat) (w : World), Kept (· = g) w0 w → Kept (· = g) w0 (w.setCells g o vs)
  | [], _, _, h => h
  | v :: r, o, w, h => kept_setCells r (o + 1) _ (h.setCell rfl v)

theorem blk_there {w : World} {g : Nat} {t : TypeId} {L : List Value} (h : Blk w g t L.toArray) (o n : Nat) (hf : o + n ≤ L.length) : w.there g o n := fun j hj => by
  refine ⟨?_, h.frozen _⟩
  rw [h.cell]
  simp [show o + j < L.length by omega]

theorem wpl_store_mid {P : Program} {w : World} {ops : Array Oper} {rest : List Oper} {op : Oper} {a : Act} {Q : Exit → Act → World → Prop} (hgd : op.guard = none) (ty : TypeId) (x y : Operand) (ho : op.op = .store ty x y)
    (g i : Nat) (xs : List Nat) (hx : a.eval x = .pointer (some ⟨g, i, none⟩)) (hy : a.eval y = .agg (bA xs)) (t : TypeId) (L : List Value) (hg : Blk w g t L.toArray) (hf : i + xs.length ≤ L.length) (hi : (P.info? ty).map (·.size) = some (bA xs).size)
    (h : ∀ w', Blk w' g t (splice L i (bvals xs)).toArray → Kept (· = g) w w' → wpList P ops Q rest (a.put op.dst undef) w') : wpList P ops Q (op :: rest) a w := by
  refine wpList_store_mid hgd ty x y ho g i (bA xs) hx hy (blk_there hg i _ (by rw [bA_size]; exact hf)) hi (bA_one _) ?_
  refine h _ ?_ (kept_setCells _ _ _ (Kept.refl _ _))
  exact blk_setCells (bvals xs) i w L hg (by rw [bvals_length]; exact hf)

end Go.Proofs.Ytajkajgnjcnolaa

