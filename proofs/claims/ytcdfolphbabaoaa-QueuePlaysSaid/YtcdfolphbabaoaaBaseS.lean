/-
  Structs of ints as values: how they are laid out, when two are the same, what an argument of their types is.
-/
import Derived.Test.YtcdfolphbabaoaaBaseG
namespace Go.Proofs.Ytcdfolphbabaoaa
open Go.RowKit
set_option linter.unusedVariables false
set_option linter.unnecessarySimpa false
set_option linter.unusedSimpArgs false

theorem Try.cellsI : Try.prog.cellsOf 3 = 1 := by kernel_rfl
section
variable {P : Program} (w : World)
theorem run_part_int {e : TypeId} {q : IntKind} (he : P.underlying e = some (.int q)) {xs : Array Value} {off : Nat} {v : Value} (hx : xs[off]? = some v) : (part e xs off).run P w = .ok v w := by
  simp [part, isAgg, run_underlying he, hx]
end
theorem run_field {P : Program} (w : World) (d : Nat) {xs ys : Array Value} {f : Field} {fs : List Field} {a b : Value} {r rest : Bool} (hn : f.name ≠ "_") (p1 : (part f.type xs f.offset).run P w = .ok a w) (p2 : (part f.type ys f.offset).run P w = .ok b w)
    (p3 : (Op.equalIn d f.type a b).run P w = .ok r w) (ih : (Op.eqFields d xs ys fs).run P w = .ok rest w) : (Op.eqFields d xs ys (f :: fs)).run P w = .ok (r && rest) w := by
  unfold Op.eqFields
  rw [if_pos hn]
  simp only [Sem.run_bind, p1, p2, p3, Result.andThen_ok]
  cases r
  · simp
  · simpa using ih
/-- A field of a frame that is an int. -/
structure IntField (P : Program) (f : Field) (o : Nat) : Prop where
  name : f.name ≠ "_"
  ty : P.underlying f.type = some (.int .i64)
  off : f.offset = o
  cells : P.cellsOf f.type = 1
theorem run_field_int {P : Program} (w : World) (d : Nat) {xs ys : Array Value} {f : Field} {fs : List Field} {o : Nat} {a b : Int} {rest : Bool} (h : IntField P f o) (p1 : xs[o]? = some (.int .i64 a)) (p2 : ys[o]? = some (.int .i64 b))
    (ih : (Op.eqFields (d + 1) xs ys fs).run P w = .ok rest w) : (Op.eqFields (d + 1) xs ys (f :: fs)).run P w = .ok ((a == b) && rest) w := by
  obtain ⟨h1, h2, rfl, _⟩ := h
  exact run_field w (d + 1) h1 (run_part_int w h2 p1) (run_part_int w h2 p2) (run_equalIn_int w d f.type .i64 .i64 a b h2) ih
/-- Fields that are ints, one a cell, from cell j on. -/
def IntFields (P : Program) : Nat → List Field → Prop
  | _, [] => True
  | j, f :: fs => IntField P f j ∧ IntFields P (j + 1) fs
theorem run_mix_fields {P : Program} (w : World) (d : Nat) {xs ys : Array Value} {rest : List Field} {r : Bool} {zs zs' : List Int} (hr : (Op.eqFields (d + 1) xs ys rest).run P w = .ok r w) :
    ∀ (fs : List Field) (j : Nat), IntFields P j fs → (∀ i, i < fs.length → xs[j + i]? = some (.int .i64 (zs.getD (j + i) 0)) ∧ ys[j + i]? = some (.int .i64 (zs'.getD (j + i) 0))) →
    (Op.eqFields (d + 1) xs ys (fs ++ rest)).run P w = .ok (decide (∀ i, i < fs.length → zs.getD (j + i) 0 = zs'.getD (j + i) 0) && r) w
  | [], j, _, _ => by simpa using hr
  | f :: fs, j, hI, hat => by
    obtain ⟨h1, h2⟩ := hI
    have a0 := hat 0 (by simp)
    have ih := run_mix_fields w d (zs := zs) (zs' := zs') hr fs (j + 1) h2 (fun i hi => by have := hat (i + 1) (by simpa using hi); rwa [show j + (i + 1) = j + 1 + i by omega] at this)
    rw [List.cons_append, run_field_int w d h1 a0.1 a0.2 ih]
    congr 1
    rw [← Bool.and_assoc]
    congr 1
    rw [Bool.eq_iff_iff]
    simp only [Bool.and_eq_true, beq_iff_eq, decide_eq_true_eq, List.length_cons]
    constructor
    · rintro ⟨h, h'⟩ i hi
      cases i with
      | zero => exact h
      | succ i => rw [show j + (i + 1) = j + 1 + i by omega]; exact h' i (by omega)
    · intro h
      refine ⟨h 0 (by omega), fun i hi => ?_⟩
      have := h (i + 1) (by omega)
      rwa [show j + (i + 1) = j + 1 + i by omega] at this
theorem ints_eq_of_getD {xs ys : List Int} {n : Nat} (hx : xs.length = n) (hy : ys.length = n) (h : ∀ i, i < n → xs.getD i 0 = ys.getD i 0) : xs = ys := by
  apply List.ext_getElem (by omega)
  intro i h1 h2
  have := h i (by omega)
  simpa [List.getD, h1, h2] using this

section
open Go.ChangeShapes Go.WideShapes
variable {H : Type} {enc : TypeId × Value → H} {P : Program} {w : World} {base : Nat} {spare : Nat → Bool} {held : Bool}
theorem trod_int_of {e : TypeId} {o n : Nat} {f : Field} {cs : List Value} {x : Option (DataW H × List MemPlace)} (h : IntField P f o) (hx : x.isSome = true)
    (ht : DataW.trod enc P w base spare held n f.type (List.take (P.cellsOf f.type) (List.drop f.offset cs)) = x) : ∃ z : Int, (cs.drop o).take 1 = [.int .i64 z] ∧ (Lit.int .i64 z).wf = true := by
  obtain ⟨y, rfl⟩ := Option.isSome_iff_exists.1 hx
  rw [h.cells, h.off] at ht
  obtain ⟨z, hz, _, hwf⟩ := DataW.trod_int h.ty ht
  exact ⟨z, hz, hwf⟩
theorem list_cut {l : List Value} {o : Nat} {v : Value} (hh : (l.drop o).take 1 = [v]) : l.drop o = v :: l.drop (o + 1) := by
  by_cases ho : o < l.length
  · rw [List.drop_eq_getElem_cons ho] at hh
    simp only [List.take_succ_cons, List.take_zero, List.cons.injEq, and_true] at hh
    rw [List.drop_eq_getElem_cons ho, hh]
  · rw [List.drop_of_length_le (by omega)] at hh; simp at hh
theorem open_intFields {n : Nat} {cs : List Value} : ∀ (fs : List Field) (j : Nat), IntFields P j fs → (∀ f ∈ fs, (DataW.trod enc P w base spare held n f.type ((cs.drop f.offset).take (P.cellsOf f.type))).isSome = true) →
    ∃ zs : List Int, zs.length = fs.length ∧ (∀ z ∈ zs, (Lit.int .i64 z).wf = true) ∧ cs.drop j = zs.map (fun z => Value.int .i64 z) ++ cs.drop (j + fs.length)
  | [], j, _, _ => ⟨[], rfl, by simp, by simp⟩
  | f :: fs, j, hI, hs => by
    obtain ⟨h1, h2⟩ := hI
    obtain ⟨z, hz, hw⟩ := trod_int_of (e := f.type) h1 (hs f (by simp)) rfl
    obtain ⟨zs, hl, hwf, hd⟩ := open_intFields fs (j + 1) h2 (fun f' hf' => hs f' (by simp [hf']))
    refine ⟨z :: zs, by simp [hl], fun x hx => ?_, ?_⟩
    · rcases List.mem_cons.1 hx with rfl | hx
      · exact hw
      · exact hwf x hx
    · rw [list_cut hz, hd]
      simp [Nat.add_comm, Nat.add_left_comm]
end

/-- Ints alone. -/
def intsA (zs : List Int) : Array Value := (zs.map (fun z => Value.int .i64 z)).toArray
theorem intsA_size (zs : List Int) : (intsA zs).size = zs.length := by simp [intsA]
theorem intsA_one (zs : List Int) : (intsA zs).all (·.oneCell') = true := by
  simp only [intsA, Array.all_eq_true_iff_forall_mem, List.mem_toArray]
  intro x hx
  obtain ⟨z, _, rfl⟩ := List.mem_map.1 hx
  rfl
theorem intsA_at (zs : List Int) (i : Nat) (h : i < zs.length) : (intsA zs)[i]? = some (.int .i64 (zs.getD i 0)) := by
  simp [intsA, h, List.getD]

/-- The type of such structs: n ints. -/
structure IntsType (P : Program) (t : TypeId) (n : Nat) : Prop where
  fields : ∃ fs : List Field, P.underlying t = some (.struct fs.toArray) ∧ fs.length = n ∧ IntFields P 0 fs
  cells : P.cellsOf t = n
  stood : P.stoodInHeld t = false
  guard : P.eqGuardType P.depth t = false

theorem run_equal_ints {P : Program} (w : World) (d : Nat) {t : TypeId} {n : Nat} (T : IntsType P t n) (zs zs' : List Int) (hz : zs.length = n) (hz' : zs'.length = n) :
    (Op.equalIn (d + 2) t (.agg (intsA zs)) (.agg (intsA zs'))).run P w = .ok (decide (zs = zs')) w := by
  obtain ⟨fs, hu, hl, hI⟩ := T.fields
  have hfs : P.fieldsOf t = fs.toArray := by simp [Program.fieldsOf, hu]
  rw [run_equalIn_agg w (d + 1) t _ _ (by rw [hfs]; exact hu) T.stood, hfs]
  have r := run_mix_fields w d (zs := zs) (zs' := zs') (xs := intsA zs) (ys := intsA zs') (rest := []) (r := true) (by simp [Op.eqFields]) fs 0 hI (fun i hi => ⟨by rw [Nat.zero_add]; exact intsA_at zs i (by omega), by rw [Nat.zero_add]; exact intsA_at zs' i (by omega)⟩)
  rw [List.append_nil] at r
  refine (show (Op.eqFields (d + 1) (intsA zs) (intsA zs') fs.toArray.toList).run P w = _ from r).trans ?_
  congr 1
  rw [Bool.eq_iff_iff]
  simp only [Bool.and_eq_true, decide_eq_true_eq, and_true, Nat.zero_add, hl]
  exact ⟨fun h => ints_eq_of_getD hz hz' h, fun h i _ => by rw [h]⟩

theorem run_eql_ints {P : Program} {t : TypeId} {n : Nat} (T : IntsType P t n) (zs zs' : List Int) (hz : zs.length = n) (hz' : zs'.length = n) (w : World) :
    (binOp .eql t (.agg (intsA zs)) (.agg (intsA zs'))).run P w = .ok (.bool (decide (zs = zs'))) w := by
  rw [run_eql_struct, run_equal_ints w 9998 T zs zs' hz hz']; rfl
theorem run_neq_ints {P : Program} {t : TypeId} {n : Nat} (T : IntsType P t n) (zs zs' : List Int) (hz : zs.length = n) (hz' : zs'.length = n) (w : World) :
    (binOp .neq t (.agg (intsA zs)) (.agg (intsA zs'))).run P w = .ok (.bool (!decide (zs = zs'))) w := by
  rw [run_neq_struct, run_equal_ints w 9998 T zs zs' hz hz']; rfl

section
open Go.ChangeShapes Go.WideShapes
variable {H : Type} {enc : TypeId × Value → H} {P : Program} {w : World} {base : Nat} {spare : Nat → Bool} {held : Bool}
theorem open_intsA {r : Reach} {b0 : Nat} {t : TypeId} {n : Nat} {v : Value} {d : DataW H} {p : List MemPlace} (T : IntsType P t n) (hv : Value.okWide P w r b0 t v) (h : DataW.Trod enc P w base spare held t v d p) :
    ∃ zs : List Int, v = .agg (intsA zs) ∧ zs.length = n ∧ ∀ z ∈ zs, (Lit.int .i64 z).wf = true := by
  obtain ⟨fs, hu, hl, hI⟩ := T.fields
  obtain ⟨cs, rfl, hsz⟩ := okWide_struct hu hv
  obtain ⟨fuel, hf⟩ := h
  simp only [Value.cells] at hf
  obtain ⟨xs, m, _, _, hlc, hxl, hat⟩ := DataW.trod_struct hu hf
  have hxl' : xs.length = n := by rw [hxl]; simp [hl]
  have hint : ∀ f ∈ fs, (DataW.trod enc P w base spare held m f.type ((cs.toList.drop f.offset).take (P.cellsOf f.type))).isSome = true := fun f hf => by
    obtain ⟨i, hi, rfl⟩ := List.getElem_of_mem hf
    rw [hat i _ (by rw [List.getElem?_toArray, List.getElem?_eq_getElem hi])]
    simp [hxl', ← hl, hi]
  obtain ⟨zs, hzl, hwf, hz⟩ := open_intFields fs 0 hI hint
  refine ⟨zs, ?_, hzl.trans hl, hwf⟩
  congr 1
  apply Array.ext'
  rw [T.cells] at hlc
  rw [List.drop_zero, Nat.zero_add, hl, List.drop_of_length_le (by simp at hlc; simp; omega), List.append_nil] at hz
  rw [hz]; rfl
end

end Go.Proofs.Ytcdfolphbabaoaa
