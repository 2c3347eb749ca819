/-
  Frames and sectors as values: how they are laid out, when two are the same, what an argument of their types is.
-/
import Derived.Test.YtdjnfikacjfkkaaCodecD
import Derived.Test.YtdjnfikacjfkkaaCrcZ
import Derived.Laws.StructEq
import Derived.ChangeKeysEq
import Derived.ChangeSame
import Derived.WideShapes
import Derived.Deep.Slices
namespace Go.Proofs.Ytdjnfikacjfkkaa
open Go.RowKit CrcM
set_option linter.unusedVariables false
set_option linter.unnecessarySimpa false
set_option linter.unusedSimpArgs false

/-- A frame as it reads. -/
structure FrR where
  k : Int
  z : Int
  o : Int
  e : Int
  s : Int
  b : List Nat
  deriving DecidableEq

def frL (f : FrR) : List Value := [.int .i64 f.k, .int .i64 f.z, .int .i64 f.o, .int .i64 f.e, .int .i64 f.s] ++ bvals f.b
def frA (f : FrR) : Array Value := (frL f).toArray

/-- What an argument's frame is. -/
structure FrOk (f : FrR) : Prop where
  len : f.b.length = 44
  lt : ∀ c ∈ f.b, c < 256
  wk : (Lit.int .i64 f.k).wf = true
  wz : (Lit.int .i64 f.z).wf = true
  wo : (Lit.int .i64 f.o).wf = true
  we : (Lit.int .i64 f.e).wf = true
  ws : (Lit.int .i64 f.s).wf = true

theorem frL_length {f : FrR} (h : f.b.length = 44) : (frL f).length = 49 := by simp [frL, bvals_length, h]
theorem frA_size {f : FrR} (h : f.b.length = 44) : (frA f).size = 49 := by simp [frA, frL_length h]
theorem frA_one {f : FrR} : (frA f).all (·.oneCell') = true := by
  simp only [frA, Array.all_eq_true_iff_forall_mem, List.mem_toArray]
  intro x hx
  rcases List.mem_append.1 hx with h | h
  · simp at h; rcases h with rfl | rfl | rfl | rfl | rfl <;> rfl
  · exact bvals_one _ x h
theorem bA_one (bs : List Nat) : (bA bs).all (·.oneCell') = true := by
  simp only [bA, Array.all_eq_true_iff_forall_mem, List.mem_toArray]
  exact fun x hx => bvals_one _ x hx
theorem frA_at0 (f : FrR) : (frA f)[0]? = some (.int .i64 f.k) := by simp [frA, frL]
theorem frA_at1 (f : FrR) : (frA f)[1]? = some (.int .i64 f.z) := by simp [frA, frL]
theorem frA_at2 (f : FrR) : (frA f)[2]? = some (.int .i64 f.o) := by simp [frA, frL]
theorem frA_at3 (f : FrR) : (frA f)[3]? = some (.int .i64 f.e) := by simp [frA, frL]
theorem frA_at4 (f : FrR) : (frA f)[4]? = some (.int .i64 f.s) := by simp [frA, frL]
theorem frA_body (f : FrR) (i : Nat) (h : i < f.b.length) : (frA f)[5 + i]? = some (.int .u8 (f.b.getD i 0 : Nat)) := by
  simp only [frA, frL, List.getElem?_toArray]
  rw [List.getElem?_append_right (by simp)]
  simpa using bvals_at f.b i h
theorem frA_part {f : FrR} (h : f.b.length = 44) : (frA f).extract 5 (5 + 44) = bA f.b := by
  simp only [frA, bA, frL, List.extract_toArray, List.extract_eq_take_drop]
  rw [List.drop_append_of_le_length (by simp)]
  simp
  rw [List.take_of_length_le (by rw [bvals_length]; omega)]

section
variable {P : Program} (w : World)

theorem run_part_int {e : TypeId} {q : IntKind} (he : P.underlying e = some (.int q)) {xs : Array Value} {off : Nat} {v : Value} (hx : xs[off]? = some v) : (part e xs off).run P w = .ok v w := by
  simp [part, isAgg, run_underlying he, hx]

theorem run_items_bytes (d : Nat) {e : TypeId} (he : P.underlying e = some (.int .u8)) (xs ys : List Nat) : ∀ is : List Nat, (∀ i ∈ is, i < xs.length ∧ i < ys.length) →
    (Op.eqItems (d + 1) e 1 (bA xs) (bA ys) is).run P w = .ok (decide (∀ i ∈ is, xs.getD i 0 = ys.getD i 0)) w
  | [], _ => by simp [Op.eqItems]
  | i :: is, h => by
    have hi := h i (by simp)
    have ih := run_items_bytes d he xs ys is (fun j hj => h j (by simp [hj]))
    have p1 := run_part_int (P := P) w he (bA_at xs i hi.1)
    have p2 := run_part_int (P := P) w he (bA_at ys i hi.2)
    have p3 := run_equalIn_int (P := P) w d e .u8 .u8 (xs.getD i 0 : Nat) (ys.getD i 0 : Nat) he
    simp only [Op.eqItems, Sem.run_bind, Nat.mul_one, p1, p2, p3, Result.andThen_ok]
    by_cases hc : xs.getD i 0 = ys.getD i 0
    · rw [hc]
      simp only [beq_self_eq_true, Bool.not_true, Bool.false_eq_true, if_false]
      rw [ih]
      congr 1
      rw [Bool.eq_iff_iff]
      simp only [decide_eq_true_eq, List.mem_cons, forall_eq_or_imp]
      exact ⟨fun hh => ⟨hc, hh⟩, fun hh => hh.2⟩
    · have : (((xs.getD i 0 : Nat) : Int) == ((ys.getD i 0 : Nat) : Int)) = false := by rw [beq_eq_false_iff_ne]; omega
      rw [this]
      simp only [Bool.not_false, if_true, Sem.run_pure]
      congr 1
      symm
      rw [decide_eq_false_iff_not]
      exact fun hh => hc (hh i (by simp))

theorem list_eq_of_getD {xs ys : List Nat} {n : Nat} (hx : xs.length = n) (hy : ys.length = n) (h : ∀ i, i < n → xs.getD i 0 = ys.getD i 0) : xs = ys := by
  apply List.ext_getElem (by omega)
  intro i h1 h2
  have := h i (by omega)
  simpa [List.getD, h1, h2] using this

theorem run_equal_bytes (d : Nat) {t e : TypeId} {n : Nat} (hu : P.underlying t = some (.array n e)) (he : P.underlying e = some (.int .u8)) (hc : P.cellsOf e = 1) (xs ys : List Nat) (hx : xs.length = n) (hy : ys.length = n) :
    (Op.equalIn (d + 2) t (.agg (bA xs)) (.agg (bA ys))).run P w = .ok (decide (xs = ys)) w := by
  obtain ⟨i, hi⟩ := info_of_underlying he
  rw [run_equalIn_array w (d + 1) (bA xs) (bA ys) hu hi, hc, run_items_bytes w d he xs ys (List.range n) (fun i hi => by rw [hx, hy]; simpa using hi)]
  congr 1
  rw [Bool.eq_iff_iff]
  simp only [decide_eq_true_eq, List.mem_range]
  exact ⟨fun h => list_eq_of_getD hx hy h, fun h => by rw [h]; simp⟩
end

theorem Try.cellsByte : Try.prog.cellsOf 5 = 1 := by kernel_rfl
theorem Try.cells44 : Try.prog.cellsOf 26 = 44 := by kernel_rfl
theorem Try.cellsFr : Try.prog.cellsOf 41 = 49 := by kernel_rfl
theorem Try.cellsI : Try.prog.cellsOf 3 = 1 := by kernel_rfl
theorem infoFr : (Try.prog.info? 41).map (·.size) = some 49 := by kernel_rfl
theorem infoRF : (Try.prog.info? 44).map (·.size) = some 49 := by kernel_rfl
theorem info_frA {f : FrR} (h : f.b.length = 44) : (Try.prog.info? 41).map (·.size) = some (frA f).size := by rw [frA_size h]; exact infoFr
theorem info_rfA {f : FrR} (h : f.b.length = 44) : (Try.prog.info? 44).map (·.size) = some (frA f).size := by rw [frA_size h]; exact infoRF
/-- All fields of two frames, one by one. -/
theorem fr_eq (f g : FrR) : f = g ↔ f.k = g.k ∧ f.z = g.z ∧ f.o = g.o ∧ f.e = g.e ∧ f.s = g.s ∧ f.b = g.b := by
  cases f; cases g; simp

theorem guardFr : Try.prog.eqGuardType Try.prog.depth 41 = false := by kernel_rfl

theorem run_part44 (w : World) {f : FrR} (h : f.b.length = 44) : (part 26 (frA f) 5).run Try.prog w = .ok (.agg (bA f.b)) w := by
  obtain ⟨i, hi⟩ := info_of_underlying (P := Try.prog) Try.underlying26
  have hs := run_sizeOf (P := Try.prog) w hi
  rw [Try.cells44] at hs
  simp [part, isAgg, run_underlying Try.underlying26, hs, frA_part h]

theorem part_int (w : World) {xs : Array Value} {off : Nat} {v : Value} (hx : xs[off]? = some v) : (part 3 xs off).run Try.prog w = .ok v w := run_part_int w Try.underlying3 hx

theorem run_field {P : Program} (w : World) (d : Nat) {xs ys : Array Value} {f : Field} {fs : List Field} {a b : Value} {r rest : Bool} (hn : f.name ≠ "_") (p1 : (part f.type xs f.offset).run P w = .ok a w) (p2 : (part f.type ys f.offset).run P w = .ok b w)
    (p3 : (Op.equalIn d f.type a b).run P w = .ok r w) (ih : (Op.eqFields d xs ys fs).run P w = .ok rest w) : (Op.eqFields d xs ys (f :: fs)).run P w = .ok (r && rest) w := by
  unfold Op.eqFields
  rw [if_pos hn]
  simp only [Sem.run_bind, p1, p2, p3, Result.andThen_ok]
  cases r
  · simp
  · simpa using ih

/-- A field of a frame that is an int. -/
structure IntField (P : Program) (f : Field) (o : Nat) : Prop where
  name : f.name ≠ "_"
  ty : P.underlying f.type = some (.int .i64)
  off : f.offset = o
  cells : P.cellsOf f.type = 1

theorem run_field_int {P : Program} (w : World) (d : Nat) {xs ys : Array Value} {f : Field} {fs : List Field} {o : Nat} {a b : Int} {rest : Bool} (h : IntField P f o) (p1 : xs[o]? = some (.int .i64 a)) (p2 : ys[o]? = some (.int .i64 b))
    (ih : (Op.eqFields (d + 1) xs ys fs).run P w = .ok rest w) : (Op.eqFields (d + 1) xs ys (f :: fs)).run P w = .ok ((a == b) && rest) w := by
  obtain ⟨h1, h2, rfl, _⟩ := h
  exact run_field w (d + 1) h1 (run_part_int w h2 p1) (run_part_int w h2 p2) (run_equalIn_int w d f.type .i64 .i64 a b h2) ih

/-- The type of frames. -/
structure FrameType (P : Program) (t : TypeId) : Prop where
  fields : ∃ f0 f1 f2 f3 f4 f5 : Field, ∃ e : TypeId, P.underlying t = some (.struct #[f0, f1, f2, f3, f4, f5]) ∧ IntField P f0 0 ∧ IntField P f1 1 ∧ IntField P f2 2 ∧ IntField P f3 3 ∧ IntField P f4 4 ∧
    f5.name ≠ "_" ∧ f5.offset = 5 ∧ P.underlying f5.type = some (.array 44 e) ∧ P.underlying e = some (.int .u8) ∧ P.cellsOf f5.type = 44 ∧ P.cellsOf e = 1
  cells : P.cellsOf t = 49
  stood : P.stoodInHeld t = false
  guard : P.eqGuardType P.depth t = false

theorem run_part_body {P : Program} (w : World) {t e : TypeId} (hu : P.underlying t = some (.array 44 e)) (hc : P.cellsOf t = 44) {f : FrR} (h : f.b.length = 44) : (part t (frA f) 5).run P w = .ok (.agg (bA f.b)) w := by
  obtain ⟨i, hi⟩ := info_of_underlying hu
  have hs := run_sizeOf w hi
  rw [hc] at hs
  simp [part, isAgg, run_underlying hu, hs, frA_part h]

theorem run_equal_frame {P : Program} (w : World) (d : Nat) {t : TypeId} (T : FrameType P t) (f g : FrR) (hf : f.b.length = 44) (hg : g.b.length = 44) :
    (Op.equalIn (d + 3) t (.agg (frA f)) (.agg (frA g))).run P w = .ok (decide (f = g)) w := by
  obtain ⟨f0, f1, f2, f3, f4, f5, e, hu, h0, h1, h2, h3, h4, n5, o5, u5, ue, c5, ce⟩ := T.fields
  have hfs : P.fieldsOf t = #[f0, f1, f2, f3, f4, f5] := by simp [Program.fieldsOf, hu]
  rw [run_equalIn_agg w (d + 2) t _ _ (by rw [hfs]; exact hu) T.stood, hfs]
  have b1 : (part f5.type (frA f) f5.offset).run P w = .ok (.agg (bA f.b)) w := by rw [o5]; exact run_part_body w u5 c5 hf
  have b2 : (part f5.type (frA g) f5.offset).run P w = .ok (.agg (bA g.b)) w := by rw [o5]; exact run_part_body w u5 c5 hg
  have e5 := run_equal_bytes (P := P) w d u5 ue ce f.b g.b hf hg
  have r := run_field_int w (d + 1) h0 (frA_at0 f) (frA_at0 g) (run_field_int w (d + 1) h1 (frA_at1 f) (frA_at1 g) (run_field_int w (d + 1) h2 (frA_at2 f) (frA_at2 g) (run_field_int w (d + 1) h3 (frA_at3 f) (frA_at3 g) (run_field_int w (d + 1) h4 (frA_at4 f) (frA_at4 g)
    (run_field w (d + 2) n5 b1 b2 e5 (fs := []) (rest := true) (by simp [Op.eqFields]))))))
  refine r.trans ?_
  congr 1
  rw [Bool.eq_iff_iff, decide_eq_true_eq, fr_eq]
  simp [and_assoc]

theorem tyFr : FrameType Try.prog 41 :=
  ⟨⟨_, _, _, _, _, _, 5, Try.underlying41, ⟨by decide, Try.underlying3, rfl, Try.cellsI⟩, ⟨by decide, Try.underlying3, rfl, Try.cellsI⟩, ⟨by decide, Try.underlying3, rfl, Try.cellsI⟩, ⟨by decide, Try.underlying3, rfl, Try.cellsI⟩, ⟨by decide, Try.underlying3, rfl, Try.cellsI⟩,
    by decide, rfl, Try.underlying26, Try.underlying5, Try.cells44, Try.cellsByte⟩, Try.cellsFr, by kernel_rfl, by kernel_rfl⟩
theorem tyRF : FrameType Try.prog 44 :=
  ⟨⟨_, _, _, _, _, _, 5, Try.underlying44, ⟨by decide, Try.underlying3, rfl, Try.cellsI⟩, ⟨by decide, Try.underlying3, rfl, Try.cellsI⟩, ⟨by decide, Try.underlying3, rfl, Try.cellsI⟩, ⟨by decide, Try.underlying3, rfl, Try.cellsI⟩, ⟨by decide, Try.underlying3, rfl, Try.cellsI⟩,
    by decide, rfl, Try.underlying26, Try.underlying5, Try.cells44, Try.cellsByte⟩, by kernel_rfl, by kernel_rfl, by kernel_rfl⟩

theorem run_eql_frame {P : Program} {t : TypeId} (T : FrameType P t) (f g : FrR) (hf : f.b.length = 44) (hg : g.b.length = 44) (w : World) :
    (binOp .eql t (.agg (frA f)) (.agg (frA g))).run P w = .ok (.bool (decide (f = g))) w := by
  rw [run_eql_struct, run_equal_frame w 9997 T f g hf hg]; rfl
theorem run_neq_frame {P : Program} {t : TypeId} (T : FrameType P t) (f g : FrR) (hf : f.b.length = 44) (hg : g.b.length = 44) (w : World) :
    (binOp .neq t (.agg (frA f)) (.agg (frA g))).run P w = .ok (.bool (!decide (f = g))) w := by
  rw [run_neq_struct, run_equal_frame w 9997 T f g hf hg]; rfl
/-- The type of sectors. -/
structure BytesType (P : Program) (t : TypeId) (n : Nat) : Prop where
  under : ∃ e : TypeId, P.underlying t = some (.array n e) ∧ P.underlying e = some (.int .u8) ∧ P.cellsOf e = 1
  cells : P.cellsOf t = n
  guard : P.eqGuardType P.depth t = false
theorem run_eql_sector {P : Program} {t : TypeId} {n : Nat} (T : BytesType P t n) (xs ys : List Nat) (hx : xs.length = n) (hy : ys.length = n) (w : World) :
    (binOp .eql t (.agg (bA xs)) (.agg (bA ys))).run P w = .ok (.bool (decide (xs = ys))) w := by
  obtain ⟨e, h1, h2, h3⟩ := T.under
  rw [run_eql_struct, run_equal_bytes w 9998 h1 h2 h3 xs ys hx hy]; rfl
section
open Go.ChangeShapes Go.WideShapes
variable {H : Type} {enc : TypeId × Value → H} {P : Program} {w : World} {base : Nat} {spare : Nat → Bool} {held : Bool}

/-- An array of bytes, as it is read. -/
theorem trod_bytes {t e : TypeId} {n fuel : Nat} {cs : List Value} {x : DataW H × List MemPlace} (hu : P.underlying t = some (.array n e)) (he : P.underlying e = some (.int .u8)) (hc : P.cellsOf e = 1) (hn : P.cellsOf t = n)
    (h : DataW.trod enc P w base spare held fuel t cs = some x) : ∃ bs : List Nat, cs = bvals bs ∧ bs.length = n ∧ ∀ c ∈ bs, c < 256 := by
  cases fuel with
  | zero => simp [DataW.trod] at h
  | succ m =>
    unfold DataW.trod at h
    rw [hu] at h
    simp only [hc, hn] at h
    split at h
    · rename_i hl
      simp only [Option.map_eq_some_iff] at h
      obtain ⟨xs, hm, _⟩ := h
      have hlen := mapM_some_length hm
      have hat := mapM_some_get hm
      have hcell : ∀ i, i < n → ∃ z : Nat, cs[i]? = some (.int .u8 (z : Nat)) ∧ z < 256 := fun i hi => by
        have h1 := hat i i (by simp [hi])
        rw [List.getElem?_eq_getElem (show i < xs.length by rw [hlen]; simpa using hi)] at h1
        obtain ⟨z, hz, _, hwf⟩ := DataW.trod_int he h1
        rw [Nat.mul_one, List.drop_eq_getElem_cons (by omega), List.take_succ_cons] at hz
        simp only [List.take_zero, List.cons.injEq, and_true] at hz
        have hb := bounds_u8 hwf
        refine ⟨z.toNat, ?_, by omega⟩
        rw [List.getElem?_eq_getElem (by omega), hz, Int.toNat_of_nonneg hb.1]
      obtain ⟨f, hf⟩ := Go.Deep.choose_lt hcell
      refine ⟨(List.range n).map f, ?_, by simp, fun c hc => ?_⟩
      · apply List.ext_getElem?
        intro i
        by_cases hi : i < n
        · rw [(hf i hi).1]; simp [bvals, hi]
        · rw [List.getElem?_eq_none (by omega), List.getElem?_eq_none (by simp [bvals]; omega)]
      · obtain ⟨i, hi, rfl⟩ := List.mem_map.1 hc
        exact (hf i (by simpa using hi)).2
    · cases h

theorem open_bytesA {r : Reach} {b0 : Nat} {t : TypeId} {n : Nat} {v : Value} {d : DataW H} {p : List MemPlace} (T : BytesType P t n) (hv : Value.okWide P w r b0 t v) (h : DataW.Trod enc P w base spare held t v d p) :
    ∃ bs : List Nat, v = .agg (bA bs) ∧ bs.length = n ∧ ∀ c ∈ bs, c < 256 := by
  obtain ⟨e, h1, h2, h3⟩ := T.under
  simp only [Value.okWide, h1] at hv
  obtain ⟨cs, rfl, _, _⟩ := hv
  obtain ⟨fuel, hf⟩ := h
  simp only [Value.cells] at hf
  obtain ⟨bs, hb, hl, hlt⟩ := trod_bytes h1 h2 h3 T.cells hf
  refine ⟨bs, ?_, hl, hlt⟩
  congr 1
  apply Array.ext'
  rw [hb, bA]

theorem trod_int_of {e : TypeId} {o n : Nat} {f : Field} {cs : List Value} {x : Option (DataW H × List MemPlace)} (h : IntField P f o) (hx : x.isSome = true)
    (ht : DataW.trod enc P w base spare held n f.type (List.take (P.cellsOf f.type) (List.drop f.offset cs)) = x) : ∃ z : Int, (cs.drop o).take 1 = [.int .i64 z] ∧ (Lit.int .i64 z).wf = true := by
  obtain ⟨y, rfl⟩ := Option.isSome_iff_exists.1 hx
  rw [h.cells, h.off] at ht
  obtain ⟨z, hz, _, hwf⟩ := DataW.trod_int h.ty ht
  exact ⟨z, hz, hwf⟩

theorem open_frameA {r : Reach} {b0 : Nat} {t : TypeId} {v : Value} {d : DataW H} {p : List MemPlace} (T : FrameType P t) (hv : Value.okWide P w r b0 t v) (h : DataW.Trod enc P w base spare held t v d p) :
    ∃ f : FrR, v = .agg (frA f) ∧ FrOk f := by
  obtain ⟨f0, f1, f2, f3, f4, f5, e, hu, h0, h1, h2, h3, h4, n5, o5, u5, ue, c5, ce⟩ := T.fields
  obtain ⟨cs, rfl, hsz⟩ := okWide_struct hu hv
  obtain ⟨fuel, hf⟩ := h
  simp only [Value.cells] at hf
  obtain ⟨xs, n, _, _, hl, hxl, hat⟩ := DataW.trod_struct hu hf
  have hsome : ∀ i, i < 6 → (xs[i]?).isSome = true := fun i hi => by
    have : xs.length = 6 := hxl
    simp [this, hi]
  obtain ⟨z0, e0, w0⟩ := trod_int_of (e := e) h0 (hsome 0 (by decide)) (hat 0 f0 rfl)
  obtain ⟨z1, e1, w1⟩ := trod_int_of (e := e) h1 (hsome 1 (by decide)) (hat 1 f1 rfl)
  obtain ⟨z2, e2, w2⟩ := trod_int_of (e := e) h2 (hsome 2 (by decide)) (hat 2 f2 rfl)
  obtain ⟨z3, e3, w3⟩ := trod_int_of (e := e) h3 (hsome 3 (by decide)) (hat 3 f3 rfl)
  obtain ⟨z4, e4, w4⟩ := trod_int_of (e := e) h4 (hsome 4 (by decide)) (hat 4 f4 rfl)
  obtain ⟨y5, hy5⟩ := Option.isSome_iff_exists.1 (hsome 5 (by decide))
  have t5 := (hat 5 f5 rfl).trans hy5
  rw [c5, o5] at t5
  obtain ⟨bs, hb, hbl, hblt⟩ := trod_bytes u5 ue ce c5 t5
  refine ⟨⟨z0, z1, z2, z3, z4, bs⟩, ?_, ⟨hbl, hblt, w0, w1, w2, w3, w4⟩⟩
  congr 1
  apply Array.ext'
  rw [T.cells] at hl
  generalize cs.toList = l at *
  have cut : ∀ (l : List Value) (o : Nat) (v : Value), (l.drop o).take 1 = [v] → l.drop o = v :: l.drop (o + 1) := fun l o v hh => by
    by_cases ho : o < l.length
    · rw [List.drop_eq_getElem_cons ho] at hh
      simp only [List.take_succ_cons, List.take_zero, List.cons.injEq, and_true] at hh
      rw [List.drop_eq_getElem_cons ho, hh]
    · rw [List.drop_of_length_le (by omega)] at hh; simp at hh
  have hl5 : l.drop 5 = bvals bs := by rw [← hb, List.take_of_length_le (by simp; omega)]
  have := cut l 0 _ e0
  rw [List.drop_zero, cut l 1 _ e1, cut l 2 _ e2, cut l 3 _ e3, cut l 4 _ e4, hl5] at this
  rw [this]; rfl
end

end Go.Proofs.Ytdjnfikacjfkkaa
