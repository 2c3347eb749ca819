/-
  Structs of some ints and, behind them, an array of bytes, as values: how they are laid out, when two are the same, what an argument of their types is. Entries.
-/
import Derived.Test.YtdjnfikacjfkkaaFrameK
import Derived.Deep.MidRow
namespace Go.Proofs.Ytdjnfikacjfkkaa
open Go.RowKit CrcM
set_option linter.unusedVariables false
set_option linter.unnecessarySimpa false
set_option linter.unusedSimpArgs false

/-- Ints, then bytes. -/
def mixL (zs : List Int) (bs : List Nat) : List Value := zs.map (fun z => Value.int .i64 z) ++ bvals bs
def mixA (zs : List Int) (bs : List Nat) : Array Value := (mixL zs bs).toArray

theorem mixL_length (zs : List Int) (bs : List Nat) : (mixL zs bs).length = zs.length + bs.length := by simp [mixL, bvals_length]
theorem mixA_size (zs : List Int) (bs : List Nat) : (mixA zs bs).size = zs.length + bs.length := by simp [mixA, mixL_length]
theorem mixA_one (zs : List Int) (bs : List Nat) : (mixA zs bs).all (·.oneCell') = true := by
  simp only [mixA, Array.all_eq_true_iff_forall_mem, List.mem_toArray]
  intro x hx
  rcases List.mem_append.1 hx with h | h
  · obtain ⟨z, _, rfl⟩ := List.mem_map.1 h; rfl
  · exact bvals_one _ x h
theorem mixA_int (zs : List Int) (bs : List Nat) (i : Nat) (h : i < zs.length) : (mixA zs bs)[i]? = some (.int .i64 (zs.getD i 0)) := by
  simp only [mixA, mixL, List.getElem?_toArray]
  rw [List.getElem?_append_left (by simpa using h)]
  simp [h, List.getD]
theorem mixA_byte (zs : List Int) (bs : List Nat) (i : Nat) (h : i < bs.length) : (mixA zs bs)[zs.length + i]? = some (.int .u8 (bs.getD i 0 : Nat)) := by
  simp only [mixA, mixL, List.getElem?_toArray]
  rw [List.getElem?_append_right (by simp)]
  simpa using bvals_at bs i h
theorem mixA_part (zs : List Int) (bs : List Nat) : (mixA zs bs).extract zs.length (zs.length + bs.length) = bA bs := by
  simp only [mixA, bA, mixL, List.extract_toArray, List.extract_eq_take_drop]
  rw [List.drop_left' (by simp), List.take_of_length_le (by rw [bvals_length]; omega)]

/-- The bytes of such a struct, in memory. -/
theorem mix_range {w : World} {g : Nat} {t : TypeId} {zs : List Int} {bs : List Nat} (h : Blk w g t (mixA zs bs)) : w.rangeAt g zs.length (bvals bs) := by
  intro j v hv
  have hj : j < bs.length := by
    by_cases hj : j < bs.length
    · exact hj
    · rw [List.getElem?_eq_none (by rw [bvals_length]; omega)] at hv; cases hv
  rw [bvals_at bs j hj] at hv
  exact ((h.cell (zs.length + j)).trans (mixA_byte zs bs j hj)).trans hv

/-- Fields that are ints, one a cell, from cell j on. -/
def IntFields (P : Program) : Nat → List Field → Prop
  | _, [] => True
  | j, f :: fs => IntField P f j ∧ IntFields P (j + 1) fs

/-- The type of such structs: n ints, k bytes. -/
structure MixType (P : Program) (t : TypeId) (n k : Nat) : Prop where
  fields : ∃ (fs : List Field) (fb : Field) (e : TypeId), P.underlying t = some (.struct (fs ++ [fb]).toArray) ∧ fs.length = n ∧ IntFields P 0 fs ∧
    fb.name ≠ "_" ∧ fb.offset = n ∧ P.underlying fb.type = some (.array k e) ∧ P.underlying e = some (.int .u8) ∧ P.cellsOf fb.type = k ∧ P.cellsOf e = 1
  cells : P.cellsOf t = n + k
  stood : P.stoodInHeld t = false
  guard : P.eqGuardType P.depth t = false

theorem run_mix_fields {P : Program} (w : World) (d : Nat) {xs ys : Array Value} {rest : List Field} {r : Bool} {zs zs' : List Int} (hr : (Op.eqFields (d + 1) xs ys rest).run P w = .ok r w) :
    ∀ (fs : List Field) (j : Nat), IntFields P j fs → (∀ i, i < fs.length → xs[j + i]? = some (.int .i64 (zs.getD (j + i) 0)) ∧ ys[j + i]? = some (.int .i64 (zs'.getD (j + i) 0))) →
    (Op.eqFields (d + 1) xs ys (fs ++ rest)).run P w = .ok (decide (∀ i, i < fs.length → zs.getD (j + i) 0 = zs'.getD (j + i) 0) && r) w
  | [], j, _, _ => by simpa using hr
  | f :: fs, j, hI, hat => by
    obtain ⟨h1, h2⟩ := hI
    have a0 := hat 0 (by simp)
    have ih := run_mix_fields w d (zs := zs) (zs' := zs') hr fs (j + 1) h2 (fun i hi => by have := hat (i + 1) (by simpa using hi); rwa [show j + (i + 1) = j + 1 + i by omega] at this)
    rw [List.cons_append, run_field_int w d h1 a0.1 a0.2 ih]
    congr 1
    rw [← Bool.and_assoc]
    congr 1
    rw [Bool.eq_iff_iff]
    simp only [Bool.and_eq_true, beq_iff_eq, decide_eq_true_eq, List.length_cons]
    constructor
    · rintro ⟨h, h'⟩ i hi
      cases i with
      | zero => exact h
      | succ i => rw [show j + (i + 1) = j + 1 + i by omega]; exact h' i (by omega)
    · intro h
      refine ⟨h 0 (by omega), fun i hi => ?_⟩
      have := h (i + 1) (by omega)
      rwa [show j + (i + 1) = j + 1 + i by omega] at this

theorem ints_eq_of_getD {xs ys : List Int} {n : Nat} (hx : xs.length = n) (hy : ys.length = n) (h : ∀ i, i < n → xs.getD i 0 = ys.getD i 0) : xs = ys := by
  apply List.ext_getElem (by omega)
  intro i h1 h2
  have := h i (by omega)
  simpa [List.getD, h1, h2] using this

theorem run_part_mix {P : Program} (w : World) {t e : TypeId} {n k : Nat} (hu : P.underlying t = some (.array k e)) (hc : P.cellsOf t = k) {zs : List Int} {bs : List Nat} (hz : zs.length = n) (hb : bs.length = k) : (part t (mixA zs bs) n).run P w = .ok (.agg (bA bs)) w := by
  subst hz hb
  obtain ⟨i, hi⟩ := info_of_underlying hu
  have hs := run_sizeOf w hi
  rw [hc] at hs
  simp [part, isAgg, run_underlying hu, hs, mixA_part]

theorem run_equal_mix {P : Program} (w : World) (d : Nat) {t : TypeId} {n k : Nat} (T : MixType P t n k) (zs zs' : List Int) (bs bs' : List Nat) (hz : zs.length = n) (hz' : zs'.length = n) (hb : bs.length = k) (hb' : bs'.length = k) :
    (Op.equalIn (d + 3) t (.agg (mixA zs bs)) (.agg (mixA zs' bs'))).run P w = .ok (decide (zs = zs' ∧ bs = bs')) w := by
  obtain ⟨fs, fb, e, hu, hl, hI, nb, ob, ub, ue, cb, ce⟩ := T.fields
  have hfs : P.fieldsOf t = (fs ++ [fb]).toArray := by simp [Program.fieldsOf, hu]
  rw [run_equalIn_agg w (d + 2) t _ _ (by rw [hfs]; exact hu) T.stood, hfs]
  have b1 : (part fb.type (mixA zs bs) fb.offset).run P w = .ok (.agg (bA bs)) w := by rw [ob]; exact run_part_mix w ub cb hz hb
  have b2 : (part fb.type (mixA zs' bs') fb.offset).run P w = .ok (.agg (bA bs')) w := by rw [ob]; exact run_part_mix w ub cb hz' hb'
  have eb := run_equal_bytes (P := P) w d ub ue ce bs bs' hb hb'
  have rb := run_field w (d + 2) nb b1 b2 eb (fs := []) (rest := true) (by simp [Op.eqFields])
  have r := run_mix_fields w (d + 1) (zs := zs) (zs' := zs') rb fs 0 hI (fun i hi => ⟨by rw [Nat.zero_add]; exact mixA_int zs bs i (by omega), by rw [Nat.zero_add]; exact mixA_int zs' bs' i (by omega)⟩)
  refine (show (Op.eqFields (d + 2) (mixA zs bs) (mixA zs' bs') (fs ++ [fb]).toArray.toList).run P w = _ from r).trans ?_
  congr 1
  rw [Bool.eq_iff_iff]
  simp only [Bool.and_eq_true, decide_eq_true_eq, Bool.and_true, Nat.zero_add, hl]
  exact ⟨fun h => ⟨ints_eq_of_getD hz hz' h.1, h.2⟩, fun h => ⟨fun i _ => by rw [h.1], h.2⟩⟩

theorem run_eql_mix {P : Program} {t : TypeId} {n k : Nat} (T : MixType P t n k) (zs zs' : List Int) (bs bs' : List Nat) (hz : zs.length = n) (hz' : zs'.length = n) (hb : bs.length = k) (hb' : bs'.length = k) (w : World) :
    (binOp .eql t (.agg (mixA zs bs)) (.agg (mixA zs' bs'))).run P w = .ok (.bool (decide (zs = zs' ∧ bs = bs'))) w := by
  rw [run_eql_struct, run_equal_mix w 9997 T zs zs' bs bs' hz hz' hb hb']; rfl
theorem run_neq_mix {P : Program} {t : TypeId} {n k : Nat} (T : MixType P t n k) (zs zs' : List Int) (bs bs' : List Nat) (hz : zs.length = n) (hz' : zs'.length = n) (hb : bs.length = k) (hb' : bs'.length = k) (w : World) :
    (binOp .neq t (.agg (mixA zs bs)) (.agg (mixA zs' bs'))).run P w = .ok (.bool (!decide (zs = zs' ∧ bs = bs'))) w := by
  rw [run_neq_struct, run_equal_mix w 9997 T zs zs' bs bs' hz hz' hb hb']; rfl
theorem run_neq_sector {P : Program} {t : TypeId} {n : Nat} (T : BytesType P t n) (xs ys : List Nat) (hx : xs.length = n) (hy : ys.length = n) (w : World) :
    (binOp .neq t (.agg (bA xs)) (.agg (bA ys))).run P w = .ok (.bool (!decide (xs = ys))) w := by
  obtain ⟨e, h1, h2, h3⟩ := T.under
  rw [run_neq_struct, run_equal_bytes w 9998 h1 h2 h3 xs ys hx hy]; rfl

section
open Go.ChangeShapes Go.WideShapes
variable {H : Type} {enc : TypeId × Value → H} {P : Program} {w : World} {base : Nat} {spare : Nat → Bool} {held : Bool}

theorem list_cut {l : List Value} {o : Nat} {v : Value} (hh : (l.drop o).take 1 = [v]) : l.drop o = v :: l.drop (o + 1) := by
  by_cases ho : o < l.length
  · rw [List.drop_eq_getElem_cons ho] at hh
    simp only [List.take_succ_cons, List.take_zero, List.cons.injEq, and_true] at hh
    rw [List.drop_eq_getElem_cons ho, hh]
  · rw [List.drop_of_length_le (by omega)] at hh; simp at hh

theorem open_intFields {n : Nat} {cs : List Value} : ∀ (fs : List Field) (j : Nat), IntFields P j fs → (∀ f ∈ fs, (DataW.trod enc P w base spare held n f.type ((cs.drop f.offset).take (P.cellsOf f.type))).isSome = true) →
    ∃ zs : List Int, zs.length = fs.length ∧ (∀ z ∈ zs, (Lit.int .i64 z).wf = true) ∧ cs.drop j = zs.map (fun z => Value.int .i64 z) ++ cs.drop (j + fs.length)
  | [], j, _, _ => ⟨[], rfl, by simp, by simp⟩
  | f :: fs, j, hI, hs => by
    obtain ⟨h1, h2⟩ := hI
    obtain ⟨z, hz, hw⟩ := trod_int_of (e := f.type) h1 (hs f (by simp)) rfl
    obtain ⟨zs, hl, hwf, hd⟩ := open_intFields fs (j + 1) h2 (fun f' hf' => hs f' (by simp [hf']))
    refine ⟨z :: zs, by simp [hl], fun x hx => ?_, ?_⟩
    · rcases List.mem_cons.1 hx with rfl | hx
      · exact hw
      · exact hwf x hx
    · rw [list_cut hz, hd]
      simp [Nat.add_comm, Nat.add_left_comm]

theorem open_mixA {r : Reach} {b0 : Nat} {t : TypeId} {n k : Nat} {v : Value} {d : DataW H} {p : List MemPlace} (T : MixType P t n k) (hv : Value.okWide P w r b0 t v) (h : DataW.Trod enc P w base spare held t v d p) :
    ∃ (zs : List Int) (bs : List Nat), v = .agg (mixA zs bs) ∧ zs.length = n ∧ bs.length = k ∧ (∀ z ∈ zs, (Lit.int .i64 z).wf = true) ∧ ∀ c ∈ bs, c < 256 := by
  obtain ⟨fs, fb, e, hu, hl, hI, nb, ob, ub, ue, cb, ce⟩ := T.fields
  obtain ⟨cs, rfl, hsz⟩ := okWide_struct hu hv
  obtain ⟨fuel, hf⟩ := h
  simp only [Value.cells] at hf
  obtain ⟨xs, m, _, _, hlc, hxl, hat⟩ := DataW.trod_struct hu hf
  have hxl' : xs.length = n + 1 := by rw [hxl]; simp [hl]
  have hsome : ∀ i, i < n + 1 → (xs[i]?).isSome = true := fun i hi => by simp [hxl', hi]
  have hint : ∀ f ∈ fs, (DataW.trod enc P w base spare held m f.type ((cs.toList.drop f.offset).take (P.cellsOf f.type))).isSome = true := fun f hf => by
    obtain ⟨i, hi, rfl⟩ := List.getElem_of_mem hf
    rw [hat i _ (by rw [List.getElem?_toArray, List.getElem?_append_left hi, List.getElem?_eq_getElem hi])]
    exact hsome i (by omega)
  obtain ⟨zs, hzl, hwf, hz⟩ := open_intFields fs 0 hI hint
  obtain ⟨y, hy⟩ := Option.isSome_iff_exists.1 (hsome n (by omega))
  have tb := (hat n fb (by rw [List.getElem?_toArray, List.getElem?_append_right (by omega), hl, Nat.sub_self]; rfl)).trans hy
  rw [cb, ob] at tb
  obtain ⟨bs, hb, hbl, hblt⟩ := trod_bytes ub ue ce cb tb
  refine ⟨zs, bs, ?_, hzl.trans hl, hbl, hwf, hblt⟩
  congr 1
  apply Array.ext'
  rw [T.cells] at hlc
  have hn : cs.toList.drop n = bvals bs := by rw [← hb, List.take_of_length_le (by simp at hlc; simp; omega)]
  rw [List.drop_zero, Nat.zero_add, hl, hn] at hz
  rw [hz]; rfl
end

/-- An entry as it reads. -/
structure EnR where
  k : Int
  f : Int
  c : Int
  b : Int
  m : Int
  t : Int
  y : List Nat
  deriving DecidableEq

def enZ (e : EnR) : List Int := [e.k, e.f, e.c, e.b, e.m, e.t]
def enA (e : EnR) : Array Value := mixA (enZ e) e.y
theorem en_eq (e g : EnR) : e = g ↔ enZ e = enZ g ∧ e.y = g.y := by
  cases e; cases g; simp [enZ, and_assoc]

/-- What an argument's entry is. -/
structure EnOk (e : EnR) : Prop where
  len : e.y.length = 32
  lt : ∀ c ∈ e.y, c < 256
  wf : ∀ z ∈ enZ e, (Lit.int .i64 z).wf = true

theorem enA_size {e : EnR} (h : e.y.length = 32) : (enA e).size = 38 := by rw [enA, mixA_size, h]; rfl
theorem enA_one {e : EnR} : (enA e).all (·.oneCell') = true := mixA_one _ _
theorem enA_at0 (e : EnR) : (enA e)[0]? = some (.int .i64 e.k) := mixA_int (enZ e) e.y 0 (by simp [enZ])
theorem enA_at1 (e : EnR) : (enA e)[1]? = some (.int .i64 e.f) := mixA_int (enZ e) e.y 1 (by simp [enZ])
theorem enA_at2 (e : EnR) : (enA e)[2]? = some (.int .i64 e.c) := mixA_int (enZ e) e.y 2 (by simp [enZ])
theorem enA_at3 (e : EnR) : (enA e)[3]? = some (.int .i64 e.b) := mixA_int (enZ e) e.y 3 (by simp [enZ])
theorem enA_at4 (e : EnR) : (enA e)[4]? = some (.int .i64 e.m) := mixA_int (enZ e) e.y 4 (by simp [enZ])
theorem enA_at5 (e : EnR) : (enA e)[5]? = some (.int .i64 e.t) := mixA_int (enZ e) e.y 5 (by simp [enZ])
theorem en_range {w : World} {g : Nat} {t : TypeId} {e : EnR} (h : Blk w g t (enA e)) : w.rangeAt g 6 (bvals e.y) := mix_range (zs := enZ e) h
theorem fr_range {w : World} {g : Nat} {t : TypeId} {f : FrR} (h : Blk w g t (frA f)) : w.rangeAt g 5 (bvals f.b) := mix_range (zs := [f.k, f.z, f.o, f.e, f.s]) h

theorem infoEn : (Try.prog.info? 25).map (·.size) = some 38 := by kernel_rfl
theorem infoE4 : (Try.prog.info? 32).map (·.size) = some 38 := by kernel_rfl
theorem infoBlock : (Try.prog.info? 23).map (·.size) = some 32 := by kernel_rfl
theorem info32 : (Try.prog.info? 22).map (·.size) = some 32 := by kernel_rfl
theorem info44 : (Try.prog.info? 26).map (·.size) = some 44 := by kernel_rfl
theorem info_enA {e : EnR} (h : e.y.length = 32) : (Try.prog.info? 25).map (·.size) = some (enA e).size := by rw [enA_size h]; exact infoEn
theorem info_e4A {e : EnR} (h : e.y.length = 32) : (Try.prog.info? 32).map (·.size) = some (enA e).size := by rw [enA_size h]; exact infoE4
theorem info_block {bs : List Nat} (h : bs.length = 32) : (Try.prog.info? 23).map (·.size) = some (bA bs).size := by rw [bA_size, h]; exact infoBlock
theorem info_44 {bs : List Nat} (h : bs.length = 44) : (Try.prog.info? 26).map (·.size) = some (bA bs).size := by rw [bA_size, h]; exact info44
theorem info_block_l {bs : List Nat} (h : bs.length = 32) : (Try.prog.info? 23).map (·.size) = some (bvals bs).length := by rw [bvals_length, h]; exact infoBlock
theorem info_32_l {bs : List Nat} (h : bs.length = 32) : (Try.prog.info? 22).map (·.size) = some (bvals bs).length := by rw [bvals_length, h]; exact info32
theorem info_44_l {bs : List Nat} (h : bs.length = 44) : (Try.prog.info? 26).map (·.size) = some (bvals bs).length := by rw [bvals_length, h]; exact info44

theorem Try.cellsBlock : Try.prog.cellsOf 23 = 32 := by kernel_rfl
theorem Try.cells32 : Try.prog.cellsOf 22 = 32 := by kernel_rfl
theorem tyBlock : BytesType Try.prog 23 32 := ⟨⟨5, Try.underlying23, Try.underlying5, Try.cellsByte⟩, Try.cellsBlock, by kernel_rfl⟩
theorem ty32 : BytesType Try.prog 22 32 := ⟨⟨5, Try.underlying22, Try.underlying5, Try.cellsByte⟩, Try.cells32, by kernel_rfl⟩
theorem ty44 : BytesType Try.prog 26 44 := ⟨⟨5, Try.underlying26, Try.underlying5, Try.cellsByte⟩, Try.cells44, by kernel_rfl⟩
theorem tyEn : MixType Try.prog 25 6 32 :=
  ⟨⟨[_, _, _, _, _, _], _, 5, Try.underlying25, rfl, ⟨⟨by decide, Try.underlying3, rfl, Try.cellsI⟩, ⟨by decide, Try.underlying3, rfl, Try.cellsI⟩, ⟨by decide, Try.underlying3, rfl, Try.cellsI⟩, ⟨by decide, Try.underlying3, rfl, Try.cellsI⟩, ⟨by decide, Try.underlying3, rfl, Try.cellsI⟩, ⟨by decide, Try.underlying3, rfl, Try.cellsI⟩, trivial⟩,
    by decide, rfl, Try.underlying23, Try.underlying5, Try.cellsBlock, Try.cellsByte⟩, by kernel_rfl, by kernel_rfl, by kernel_rfl⟩
theorem tyE4 : MixType Try.prog 32 6 32 :=
  ⟨⟨[_, _, _, _, _, _], _, 5, Try.underlying32, rfl, ⟨⟨by decide, Try.underlying3, rfl, Try.cellsI⟩, ⟨by decide, Try.underlying3, rfl, Try.cellsI⟩, ⟨by decide, Try.underlying3, rfl, Try.cellsI⟩, ⟨by decide, Try.underlying3, rfl, Try.cellsI⟩, ⟨by decide, Try.underlying3, rfl, Try.cellsI⟩, ⟨by decide, Try.underlying3, rfl, Try.cellsI⟩, trivial⟩,
    by decide, rfl, Try.underlying22, Try.underlying5, Try.cells32, Try.cellsByte⟩, by kernel_rfl, by kernel_rfl, by kernel_rfl⟩

section
open Go.ChangeShapes Go.WideShapes
variable {H : Type} {enc : TypeId × Value → H} {P : Program} {w : World} {base : Nat} {spare : Nat → Bool} {held : Bool}
theorem open_entryA {r : Reach} {b0 : Nat} {t : TypeId} {v : Value} {d : DataW H} {p : List MemPlace} (T : MixType P t 6 32) (hv : Value.okWide P w r b0 t v) (h : DataW.Trod enc P w base spare held t v d p) :
    ∃ e : EnR, v = .agg (enA e) ∧ EnOk e := by
  obtain ⟨zs, bs, rfl, hz, hb, hwf, hlt⟩ := open_mixA T hv h
  match zs, hz, hwf with
  | [z0, z1, z2, z3, z4, z5], _, hwf => exact ⟨⟨z0, z1, z2, z3, z4, z5, bs⟩, rfl, hb, hlt, hwf⟩
end

section
variable {P : Program} {w : World} {ops : Array Oper} {rest : List Oper} {o : Oper} {a : Act} {Q : Exit → Act → World → Prop}

theorem exec_eql_entry {t : TypeId} (T : MixType P t 6 32) (x y : Operand) (rt : TypeId) (ho : o.op = .binOp .eql t x y rt) (e g : EnR) (hx : a.eval x = .agg (enA e)) (hy : a.eval y = .agg (enA g)) (he : e.y.length = 32) (hg : g.y.length = 32) (b : Bool) (hb : decide (e = g) = b) :
    (execOp a.eval o).run P w = .ok (.value (.bool b)) w := by
  have hb' : decide (enZ e = enZ g ∧ e.y = g.y) = b := by rw [← hb, Bool.eq_iff_iff, decide_eq_true_eq, decide_eq_true_eq, en_eq]
  unfold execOp
  simp only [ho, hx, hy, Sem.run_bind, run_eqGuard_agg w .eql t x y (enA e) (enA g) T.guard, Result.andThen_ok, (show (binOp .eql t (.agg (enA e)) (.agg (enA g))).run P w = _ from run_eql_mix T (enZ e) (enZ g) e.y g.y rfl rfl he hg w), Sem.run_pure, hb']

theorem exec_neq_entry {t : TypeId} (T : MixType P t 6 32) (x y : Operand) (rt : TypeId) (ho : o.op = .binOp .neq t x y rt) (e g : EnR) (hx : a.eval x = .agg (enA e)) (hy : a.eval y = .agg (enA g)) (he : e.y.length = 32) (hg : g.y.length = 32) (b : Bool) (hb : (!decide (e = g)) = b) :
    (execOp a.eval o).run P w = .ok (.value (.bool b)) w := by
  have hb' : (!decide (enZ e = enZ g ∧ e.y = g.y)) = b := by rw [← hb]; congr 1; rw [Bool.eq_iff_iff, decide_eq_true_eq, decide_eq_true_eq, en_eq]
  unfold execOp
  simp only [ho, hx, hy, Sem.run_bind, run_eqGuard_agg w .neq t x y (enA e) (enA g) T.guard, Result.andThen_ok, (show (binOp .neq t (.agg (enA e)) (.agg (enA g))).run P w = _ from run_neq_mix T (enZ e) (enZ g) e.y g.y rfl rfl he hg w), Sem.run_pure, hb']

theorem exec_neq_sector {t : TypeId} {n : Nat} (T : BytesType P t n) (x y : Operand) (rt : TypeId) (ho : o.op = .binOp .neq t x y rt) (xs ys : List Nat) (hx : a.eval x = .agg (bA xs)) (hy : a.eval y = .agg (bA ys)) (hf : xs.length = n) (hg : ys.length = n) (b : Bool) (hb : (!decide (xs = ys)) = b) :
    (execOp a.eval o).run P w = .ok (.value (.bool b)) w := by
  unfold execOp
  simp only [ho, hx, hy, Sem.run_bind, run_eqGuard_agg w .neq t x y (bA xs) (bA ys) T.guard, Result.andThen_ok, run_neq_sector T xs ys hf hg w, Sem.run_pure, hb]

/-- A part of a struct, an array of bytes, is read whole. -/
theorem wpl_load_mid (hw : Region.wanted o (yielded ops a.tmps) = true) (ty : TypeId) (x : Operand) (ho : o.op = .load ty x) (b i : Nat) (hx : a.eval x = .pointer (some ⟨b, i, none⟩)) (bs : List Nat) (d : TypeDesc) (hc : w.rangeAt b i (bvals bs))
    (hu : P.underlying ty = some d) (hd : d.isRow = true) (hi : (P.info? ty).map (·.size) = some (bvals bs).length)
    (h : wpList P ops Q rest (a.put o.dst (.agg (bA bs))) w) : wpList P ops Q (o :: rest) a w := by
  unfold wpList
  rw [if_pos hw]
  exact .inl (wp_load_mid ty x ho b i hx (bvals bs) d hc hu hd hi h)
end

end Go.Proofs.Ytdjnfikacjfkkaa
