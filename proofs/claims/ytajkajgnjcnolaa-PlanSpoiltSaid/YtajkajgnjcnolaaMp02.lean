import Derived.Test.YtajkajgnjcnolaaMp01
import Derived.WalkKit
import Derived.WalkSpells
import Derived.WalkLawsBesides
import Derived.Lib.Hide
import Derived.Laws.BitsAllLaws
import Derived.Laws.CopyOwn
import Derived.Deep.QuietTactic
import Derived.BigQuiet
import Derived.Lib.SlBytesConst
import Derived.OpenShut
import Derived.Laws.AppendOwnNone
import Derived.Deep.MidRow
import Derived.Deep.RegionHeld3
import Derived.Deep.DeepCutAuto
import Derived.Laws.StructEq
import Derived.ChangeKeysEq
import Derived.ChangeSame
import Derived.WideShapes
import Derived.Deep.Slices
import Derived.OrdersHeld
import Derived.Deep.RegionHeld
namespace Go.Proofs.Ytajkajgnjcnolaa
open Go.RowKit
set_option linter.unusedVariables false
set_option linter.unnecessarySimpa false
set_option linter.unusedSimpArgs false
theorem Try.cellsI : Try.prog.cellsOf 3 = 1 := by kernel_rfl
section
variable {P : Program} (w : World)
theorem run_part_int {e : TypeId} {q : IntKind} (he : P.underlying e = some (.int q)) {xs : Array Value} {off : Nat} {v : Value} (hx : xs[off]? = some v) : (part e xs off).run P w = .ok v w := by
  simp [part, isAgg, run_underlying he, hx]
end
structure IntField (P : Program) (f : Field) (o : Nat) : Prop where
  name : f.name ≠ "_"
  ty : P.underlying f.type = some (.int .i64)
  off : f.offset = o
  cells : P.cellsOf f.type = 1
def IntFields (P : Program) : Nat → List Field → Prop
  | _, [] => True
  | j, f :: fs => IntField P f j ∧ IntFields P (j + 1) fs
section
open Go.ChangeShapes Go.WideShapes
variable {H : Type} {enc : TypeId × Value → H} {P : Program} {w : World} {base : Nat} {spare : Nat → Bool} {held : Bool}
theorem trod_int_of {e : TypeId} {o n : Nat} {f : Field} {cs : List Value} {x : Option (DataW H × List MemPlace)} (h : IntField P f o) (hx : x.isSome = true)
    (ht : DataW.trod enc P w base spare held n f.type (List.take (P.cellsOf f.type) (List.drop f.offset cs)) = x) : ∃ z : Int, (cs.drop o).take 1 = [.int .i64 z] ∧ (Lit.int .i64 z).wf = true := by
  obtain ⟨y, rfl⟩ := Option.isSome_iff_exists.1 hx
  rw [h.cells, h.off] at ht
  obtain ⟨z, hz, _, hwf⟩ := DataW.trod_int h.ty ht
  exact ⟨z, hz, hwf⟩
theorem list_cut {l : List Value} {o : Nat} {v : Value} (hh : (l.drop o).take 1 = [v]) : l.drop o = v :: l.drop (o + 1) := by
  by_cases ho : o < l.length
  · rw [List.drop_eq_getElem_cons ho] at hh
    simp only [List.take_succ_cons, List.take_zero, List.cons.injEq, and_true] at hh
    rw [List.drop_eq_getElem_cons ho, hh]
  · rw [List.drop_of_length_le (by omega)] at hh; simp at hh
theorem open_intFields {n : Nat} {cs : List Value} : ∀ (fs : List Field) (j : Nat), IntFields P j fs → (∀ f ∈ fs, (DataW.trod enc P w base spare held n f.type ((cs.drop f.offset).take (P.cellsOf f.type))).isSome = true) →
    ∃ zs : List Int, zs.length = fs.length ∧ (∀ z ∈ zs, (Lit.int .i64 z).wf = true) ∧ cs.drop j = zs.map (fun z => Value.int .i64 z) ++ cs.drop (j + fs.length)
  | [], j, _, _ => ⟨[], rfl, by simp, by simp⟩
  | f :: fs, j, hI, hs => by
    obtain ⟨h1, h2⟩ := hI
    obtain ⟨z, hz, hw⟩ := trod_int_of (e := f.type) h1 (hs f (by simp)) rfl
    obtain ⟨zs, hl, hwf, hd⟩ := open_intFields fs (j + 1) h2 (fun f' hf' => hs f' (by simp [hf']))
    refine ⟨z :: zs, by simp [hl], fun x hx => ?_, ?_⟩
    · rcases List.mem_cons.1 hx with rfl | hx
      · exact hw
      · exact hwf x hx
    · rw [list_cut hz, hd]
      simp [Nat.add_comm, Nat.add_left_comm]
end
section
open Go.ChangeShapes Go.WideShapes
variable {H : Type} {enc : TypeId × Value → H} {P : Program} {w : World} {base : Nat} {spare : Nat → Bool} {held : Bool}
end
end Go.Proofs.Ytajkajgnjcnolaa

namespace Go.Proofs.Ytajkajgnjcnolaa
open Go.RowKit CrcM
set_option linter.unusedVariables false
set_option linter.unnecessarySimpa false
set_option linter.unusedSimpArgs false
end Go.Proofs.Ytajkajgnjcnolaa

namespace Go.Proofs.Ytajkajgnjcnolaa
open Go.RowKit CrcM
set_option linter.unusedVariables false
set_option linter.unnecessarySimpa false
set_option linter.unusedSimpArgs false
def PenSet (p : Nat) (v : Value) (k : Nat) : Prop := k = p ∨ some k = v.ownBlock
theorem PenSet.nil {p k : Nat} (h : PenSet p (.slice none 0 0) k) : k = p := by
  rcases h with h | h
  · exact h
  · cases h
end Go.Proofs.Ytajkajgnjcnolaa

namespace Go.Proofs.Ytajkajgnjcnolaa
open Go.RowKit CrcM
set_option linter.unusedVariables false
set_option linter.unnecessarySimpa false
set_option linter.unusedSimpArgs false
end Go.Proofs.Ytajkajgnjcnolaa

namespace Go.Proofs.Ytajkajgnjcnolaa
open Go.RowKit CrcM
set_option linter.unusedVariables false
set_option linter.unnecessarySimpa false
set_option linter.unusedSimpArgs false
end Go.Proofs.Ytajkajgnjcnolaa

namespace Go.Proofs.Ytajkajgnjcnolaa
open Go.RowKit CrcM
set_option linter.unusedVariables false
set_option linter.unnecessarySimpa false
set_option linter.unusedSimpArgs false
end Go.Proofs.Ytajkajgnjcnolaa

namespace Go.Proofs.Ytajkajgnjcnolaa
open Go.RowKit CrcM
set_option linter.unusedVariables false
set_option linter.unnecessarySimpa false
set_option linter.unusedSimpArgs false
end Go.Proofs.Ytajkajgnjcnolaa

namespace Go.Proofs.Ytajkajgnjcnolaa
open Go.RowKit CrcM
set_option linter.unusedVariables false
set_option linter.unnecessarySimpa false
set_option linter.unusedSimpArgs false
end Go.Proofs.Ytajkajgnjcnolaa

namespace Go.Proofs.Ytajkajgnjcnolaa
open Go.RowKit CrcM
set_option linter.unusedVariables false
set_option linter.unnecessarySimpa false
set_option linter.unusedSimpArgs false
end Go.Proofs.Ytajkajgnjcnolaa

namespace Go.Proofs.Ytajkajgnjcnolaa
open Go.RowKit CrcM
set_option linter.unusedVariables false
set_option linter.unnecessarySimpa false
set_option linter.unusedSimpArgs false
end Go.Proofs.Ytajkajgnjcnolaa

namespace Go.Proofs.Ytajkajgnjcnolaa
open Go.RowKit CrcM
set_option linter.unusedVariables false
set_option linter.unnecessarySimpa false
set_option linter.unusedSimpArgs false
end Go.Proofs.Ytajkajgnjcnolaa

namespace Go.Proofs.Ytajkajgnjcnolaa
open Go.RowKit CrcM
set_option linter.unusedVariables false
set_option linter.unnecessarySimpa false
set_option linter.unusedSimpArgs false
end Go.Proofs.Ytajkajgnjcnolaa

namespace Go.Proofs.Ytajkajgnjcnolaa
open Go.RowKit CrcM
set_option linter.unusedVariables false
set_option linter.unnecessarySimpa false
set_option linter.unusedSimpArgs false
def zx (xs ys : List Nat) (k : Nat) : List Nat := (List.range k).map fun i => xs.getD i 0 ^^^ ys.getD i 0
theorem zx_length (xs ys : List Nat) (k : Nat) : (zx xs ys k).length = k := by simp [zx]
theorem zx_lt {xs ys : List Nat} (hx : ∀ c ∈ xs, c < 256) (hy : ∀ c ∈ ys, c < 256) (k : Nat) : ∀ c ∈ zx xs ys k, c < 256 := by
  intro c hc; obtain ⟨i, _, rfl⟩ := List.mem_map.1 hc; exact Nat.xor_lt_two_pow (n := 8) (getD_lt hx i) (getD_lt hy i)
end Go.Proofs.Ytajkajgnjcnolaa

namespace Go.Proofs.Ytajkajgnjcnolaa
open Go.RowKit CrcM
set_option linter.unusedVariables false
set_option linter.unnecessarySimpa false
set_option linter.unusedSimpArgs false
structure FrR where
  k : Int
  z : Int
  o : Int
  e : Int
  s : Int
  b : List Nat
  deriving DecidableEq
theorem bA_one (bs : List Nat) : (bA bs).all (·.oneCell') = true := by
  simp only [bA, Array.all_eq_true_iff_forall_mem, List.mem_toArray]
  exact fun x hx => bvals_one _ x hx
section
variable {P : Program} (w : World)
theorem run_items_bytes (d : Nat) {e : TypeId} (he : P.underlying e = some (.int .u8)) (xs ys : List Nat) : ∀ is : List Nat, (∀ i ∈ is, i < xs.length ∧ i < ys.length) →
    (Op.eqItems (d + 1) e 1 (bA xs) (bA ys) is).run P w = .ok (decide (∀ i ∈ is, xs.getD i 0 = ys.getD i 0)) w
  | [], _ => by simp [Op.eqItems]
  | i :: is, h => by
    have hi := h i (by simp)
    have ih := run_items_bytes d he xs ys is (fun j hj => h j (by simp [hj]))
    have p1 := run_part_int (P := P) w he (bA_at xs i hi.1)
    have p2 := run_part_int (P := P) w he (bA_at ys i hi.2)
    have p3 := run_equalIn_int (P := P) w d e .u8 .u8 (xs.getD i 0 : Nat) (ys.getD i 0 : Nat) he
    simp only [Op.eqItems, Sem.run_bind, Nat.mul_one, p1, p2, p3, Result.andThen_ok]
    by_cases hc : xs.getD i 0 = ys.getD i 0
    · rw [hc]
      simp only [beq_self_eq_true, Bool.not_true, Bool.false_eq_true, if_false]
      rw [ih]
      congr 1
      rw [Bool.eq_iff_iff]
      simp only [decide_eq_true_eq, List.mem_cons, forall_eq_or_imp]
      exact ⟨fun hh => ⟨hc, hh⟩, fun hh => hh.2⟩
    · have : (((xs.getD i 0 : Nat) : Int) == ((ys.getD i 0 : Nat) : Int)) = false := by rw [beq_eq_false_iff_ne]; omega
      rw [this]
      simp only [Bool.not_false, if_true, Sem.run_pure]
      congr 1
      symm
      rw [decide_eq_false_iff_not]
      exact fun hh => hc (hh i (by simp))
theorem list_eq_of_getD {xs ys : List Nat} {n : Nat} (hx : xs.length = n) (hy : ys.length = n) (h : ∀ i, i < n → xs.getD i 0 = ys.getD i 0) : xs = ys := by
  apply List.ext_getElem (by omega)
  intro i h1 h2
  have := h i (by omega)
  simpa [List.getD, h1, h2] using this
theorem run_equal_bytes (d : Nat) {t e : TypeId} {n : Nat} (hu : P.underlying t = some (.array n e)) (he : P.underlying e = some (.int .u8)) (hc : P.cellsOf e = 1) (xs ys : List Nat) (hx : xs.length = n) (hy : ys.length = n) :
    (Op.equalIn (d + 2) t (.agg (bA xs)) (.agg (bA ys))).run P w = .ok (decide (xs = ys)) w := by
  obtain ⟨i, hi⟩ := info_of_underlying he
  rw [run_equalIn_array w (d + 1) (bA xs) (bA ys) hu hi, hc, run_items_bytes w d he xs ys (List.range n) (fun i hi => by rw [hx, hy]; simpa using hi)]
  congr 1
  rw [Bool.eq_iff_iff]
  simp only [decide_eq_true_eq, List.mem_range]
  exact ⟨fun h => list_eq_of_getD hx hy h, fun h => by rw [h]; simp⟩
end
theorem Try.cellsByte : Try.prog.cellsOf 5 = 1 := by kernel_rfl
theorem Try.cellsSec : Try.prog.cellsOf 34 = 64 := by kernel_rfl
theorem infoSec : (Try.prog.info? 34).map (·.size) = some 64 := by kernel_rfl
theorem info64 : (Try.prog.info? 33).map (·.size) = some 64 := by kernel_rfl
theorem info_sec {bs : List Nat} (h : bs.length = 64) : (Try.prog.info? 34).map (·.size) = some (bA bs).size := by rw [bA_size, h]; exact infoSec
theorem info_64 {bs : List Nat} (h : bs.length = 64) : (Try.prog.info? 33).map (·.size) = some (bA bs).size := by rw [bA_size, h]; exact info64
structure BytesType (P : Program) (t : TypeId) (n : Nat) : Prop where
  under : ∃ e : TypeId, P.underlying t = some (.array n e) ∧ P.underlying e = some (.int .u8) ∧ P.cellsOf e = 1
  cells : P.cellsOf t = n
  guard : P.eqGuardType P.depth t = false
theorem run_eql_sector {P : Program} {t : TypeId} {n : Nat} (T : BytesType P t n) (xs ys : List Nat) (hx : xs.length = n) (hy : ys.length = n) (w : World) :
    (binOp .eql t (.agg (bA xs)) (.agg (bA ys))).run P w = .ok (.bool (decide (xs = ys))) w := by
  obtain ⟨e, h1, h2, h3⟩ := T.under
  rw [run_eql_struct, run_equal_bytes w 9998 h1 h2 h3 xs ys hx hy]; rfl
theorem tySec : BytesType Try.prog 34 64 := ⟨⟨5, Try.underlying34, Try.underlying5, Try.cellsByte⟩, Try.cellsSec, by kernel_rfl⟩
theorem ty64 : BytesType Try.prog 33 64 := ⟨⟨5, Try.underlying33, Try.underlying5, Try.cellsByte⟩, by kernel_rfl, by kernel_rfl⟩
section
open Go.ChangeShapes Go.WideShapes
variable {H : Type} {enc : TypeId × Value → H} {P : Program} {w : World} {base : Nat} {spare : Nat → Bool} {held : Bool}
theorem trod_bytes {t e : TypeId} {n fuel : Nat} {cs : List Value} {x : DataW H × List MemPlace} (hu : P.underlying t = some (.array n e)) (he : P.underlying e = some (.int .u8)) (hc : P.cellsOf e = 1) (hn : P.cellsOf t = n)
    (h : DataW.trod enc P w base spare held fuel t cs = some x) : ∃ bs : List Nat, cs = bvals bs ∧ bs.length = n ∧ ∀ c ∈ bs, c < 256 := by
  cases fuel with
  | zero => simp [DataW.trod] at h
  | succ m =>
    unfold DataW.trod at h
    rw [hu] at h
    simp only [hc, hn] at h
    split at h
    · rename_i hl
      simp only [Option.map_eq_some_iff] at h
      obtain ⟨xs, hm, _⟩ := h
      have hlen := mapM_some_length hm
      have hat := mapM_some_get hm
      have hcell : ∀ i, i < n → ∃ z : Nat, cs[i]? = some (.int .u8 (z : Nat)) ∧ z < 256 := fun i hi => by
        have h1 := hat i i (by simp [hi])
        rw [List.getElem?_eq_getElem (show i < xs.length by rw [hlen]; simpa using hi)] at h1
        obtain ⟨z, hz, _, hwf⟩ := DataW.trod_int he h1
        rw [Nat.mul_one, List.drop_eq_getElem_cons (by omega), List.take_succ_cons] at hz
        simp only [List.take_zero, List.cons.injEq, and_true] at hz
        have hb := bounds_u8 hwf
        refine ⟨z.toNat, ?_, by omega⟩
        rw [List.getElem?_eq_getElem (by omega), hz, Int.toNat_of_nonneg hb.1]
      obtain ⟨f, hf⟩ := Go.Deep.choose_lt hcell
      refine ⟨(List.range n).map f, ?_, by simp, fun c hc => ?_⟩
      · apply List.ext_getElem?
        intro i
        by_cases hi : i < n
        · rw [(hf i hi).1]; simp [bvals, hi]
        · rw [List.getElem?_eq_none (by omega), List.getElem?_eq_none (by simp [bvals]; omega)]
      · obtain ⟨i, hi, rfl⟩ := List.mem_map.1 hc
        exact (hf i (by simpa using hi)).2
    · cases h
end
end Go.Proofs.Ytajkajgnjcnolaa

namespace Go.Proofs.Ytajkajgnjcnolaa
open Go.RowKit CrcM
set_option linter.unusedVariables false
set_option linter.unnecessarySimpa false
set_option linter.unusedSimpArgs false
def rightB (f : FrR) : Bool := wB f.k 1 5 && wB f.z 0 65535 && wB f.o 0 65535 && wB f.e 1 4294967295 && wB f.s 0 281474976710655
end Go.Proofs.Ytajkajgnjcnolaa

namespace Go.Proofs.Ytajkajgnjcnolaa
open Go.RowKit CrcM
set_option linter.unusedVariables false
set_option linter.unnecessarySimpa false
set_option linter.unusedSimpArgs false
section
variable {P : Program} {w : World} {ops : Array Oper} {rest : List Oper} {o : Oper} {a : Act} {Q : Exit → Act → World → Prop}
end
def ahead (f : FrR) : List Nat := leb 1 f.k.toNat ++ leb 1 1 ++ leb 2 f.z.toNat ++ leb 2 f.o.toNat ++ leb 4 f.e.toNat ++ leb 6 f.s.toNat ++ f.b
end Go.Proofs.Ytajkajgnjcnolaa

namespace Go.Proofs.Ytajkajgnjcnolaa
open Go.RowKit CrcM
set_option linter.unusedVariables false
set_option linter.unnecessarySimpa false
set_option linter.unusedSimpArgs false
end Go.Proofs.Ytajkajgnjcnolaa

namespace Go.Proofs.Ytajkajgnjcnolaa
open Go.RowKit CrcM
set_option linter.unusedVariables false
set_option linter.unnecessarySimpa false
set_option linter.unusedSimpArgs false
theorem zero_sec (w : World) : (zeroValue 34).run Try.prog w = .ok (.agg (bA (zeros 64))) w := by kernel_rfl
end Go.Proofs.Ytajkajgnjcnolaa

namespace Go.Proofs.Ytajkajgnjcnolaa
open Go.RowKit CrcM
set_option linter.unusedVariables false
set_option linter.unnecessarySimpa false
set_option linter.unusedSimpArgs false
def rd (bs : List Nat) : FrR := ⟨(num ((bs.drop 0).take 1) : Nat), (num ((bs.drop 2).take 2) : Nat), (num ((bs.drop 4).take 2) : Nat), (num ((bs.drop 6).take 4) : Nat), (num ((bs.drop 10).take 6) : Nat), (bs.drop 16).take 44⟩
end Go.Proofs.Ytajkajgnjcnolaa

namespace Go.Proofs.Ytajkajgnjcnolaa
open Go.RowKit CrcM
set_option linter.unusedVariables false
set_option linter.unnecessarySimpa false
set_option linter.unusedSimpArgs false
end Go.Proofs.Ytajkajgnjcnolaa

namespace Go.Proofs.Ytajkajgnjcnolaa
open Go.RowKit CrcM
set_option linter.unusedVariables false
set_option linter.unnecessarySimpa false
set_option linter.unusedSimpArgs false
def xl (xs ys : List Nat) (k : Nat) : List Nat := (List.range 64).map fun i => if i < k then xs.getD i 0 ^^^ ys.getD i 0 else xs.getD i 0
theorem xl_length (xs ys : List Nat) (k : Nat) : (xl xs ys k).length = 64 := by simp [xl]
theorem xl_at (xs ys : List Nat) (k : Nat) (h : k < 64) : (xl xs ys k).getD k 0 = xs.getD k 0 := by simp [xl, List.getD, h]
theorem xl_zero (xs ys : List Nat) (h : xs.length = 64) : xl xs ys 0 = xs := by
  apply list_eq_of_getD (n := 64) (xl_length _ _ _) h
  intro i hi
  simp [xl, List.getD, hi]
theorem xl_full (xs ys : List Nat) : xl xs ys 64 = zx xs ys 64 := by
  unfold xl zx
  apply List.map_congr_left
  intro i hi
  rw [if_pos (by simpa using hi)]
theorem xl_set (xs ys : List Nat) (k : Nat) (h : k < 64) : (xl xs ys k).set k (xs.getD k 0 ^^^ ys.getD k 0) = xl xs ys (k + 1) := by
  apply list_eq_of_getD (n := 64) (by rw [List.length_set, xl_length]) (xl_length _ _ _)
  intro i hi
  by_cases hk : k = i
  · subst hk
    simp [xl, List.getD, hi]
  · simp only [xl, List.getD, List.getElem?_set, if_neg hk]
    simp only [List.getElem?_map, List.getElem?_range hi, Option.map_some, Option.getD_some]
    by_cases h1 : i < k
    · rw [if_pos h1, if_pos (by omega)]
    · rw [if_neg h1, if_neg (by omega)]
theorem run_index_sec (w : World) (ys : List Nat) (k : Nat) (hk : k < 64) (hy : ys.length = 64) :
    (Instr.index 34 (.agg (bA ys)) (.int .i64 k)).run Try.prog w = .ok (.int .u8 (ys.getD k 0 : Nat)) w := by
  obtain ⟨i, hi⟩ := info_of_underlying (P := Try.prog) Try.underlying5
  have hs := run_sizeOf (P := Try.prog) w hi
  rw [Try.cellsByte] at hs
  have p1 := run_part_int (P := Try.prog) w Try.underlying5 (bA_at ys k (by omega))
  have hb : (0 : Int) ≤ k ∧ (k : Int) < (64 : Nat) := by omega
  simp only [Instr.index, asIntOf, Sem.run_bind, Sem.run_pure, Result.andThen_ok, run_underlying Try.underlying34, if_pos hb, hs, Int.toNat_natCast, Nat.mul_one, p1]
set_option maxRecDepth 100000 in
set_option maxHeartbeats 1000000 in
theorem xor_any (xs ys : List Nat) (w : World) (hx : xs.length = 64) (hy : ys.length = 64) (hxb : ∀ c ∈ xs, c < 256) (hyb : ∀ c ∈ ys, c < 256) :
    Calls Try.prog 16 #[.agg (bA xs), .agg (bA ys)] w fun e w' => e = .returned (.agg (bA (zx xs ys 64))) ∧ Below w.heap.size w w' := by
  have HX := Lib.hid hx
  have HY := Lib.hid hy
  have HXb := Lib.hid hxb
  have HYb := Lib.hid hyb
  have hz := zero_sec
  have hX : Blk (((w.alloc (Obj.cells (bA xs) 34)).alloc (Obj.cells (bA ys) 34)).alloc (Obj.cells (bA (zeros 64)) 34)) w.heap.size 34 (bA xs) := Blk.alloc (Blk.alloc (Blk.new w 34 (bA xs)) _) _
  have hY : Blk (((w.alloc (Obj.cells (bA xs) 34)).alloc (Obj.cells (bA ys) 34)).alloc (Obj.cells (bA (zeros 64)) 34)) (w.heap.size + 1) 34 (bA ys) := by
    have h := Blk.alloc (Blk.new (w.alloc (Obj.cells (bA xs) 34)) 34 (bA ys)) (Obj.cells (bA (zeros 64)) 34)
    rwa [show (w.alloc (Obj.cells (bA xs) 34)).heap.size = w.heap.size + 1 by simp] at h
  have hO : Blk (((w.alloc (Obj.cells (bA xs) 34)).alloc (Obj.cells (bA ys) 34)).alloc (Obj.cells (bA (zeros 64)) 34)) (w.heap.size + 2) 34 (bA (zeros 64)) := by
    have h := Blk.new ((w.alloc (Obj.cells (bA xs) 34)).alloc (Obj.cells (bA ys) 34)) 34 (bA (zeros 64))
    rwa [show ((w.alloc (Obj.cells (bA xs) 34)).alloc (Obj.cells (bA ys) 34)).heap.size = w.heap.size + 2 by simp] at h
  have hB : Below w.heap.size w (((w.alloc (Obj.cells (bA xs) 34)).alloc (Obj.cells (bA ys) 34)).alloc (Obj.cells (bA (zeros 64)) 34)) := bthen (below_alloc _ _) (bthen (below_alloc _ _) (below_alloc _ _))
  have HX0 := Lib.hid hX
  have HY0 := Lib.hid hY
  have HO0 := Lib.hid hO
  have HB0 := Lib.hid hB
  clear hx hy hxb hyb hX hY hO hB
  go_enter Try.func16, Try.ntmps16
  go_wp2_with (first | (refine wpl_load rfl _ rfl (w.heap.size + 1) rfl _ _ _ HY0.out Try.underlying34 rfl (info_sec HY.out) ?_; go_frame))
  clear hz
  generalize (((w.alloc (Obj.cells (bA xs) 34)).alloc (Obj.cells (bA ys) 34)).alloc (Obj.cells (bA (zeros 64)) 34)) = w0 at *
  go_loopw [8] (fun i wr => ∃ k : Nat, k ≤ 64 ∧ i = .int .i64 k ∧ Blk wr w.heap.size 34 (bA (xl xs ys k)) ∧ Kept (· = w.heap.size) w0 wr) (fun i _ => 64 - (intOf i).toNat)
  case atStart => exact ⟨0, Nat.zero_le _, rfl, by rw [xl_zero _ _ HX.out]; exact HX0.out, Kept.refl _ _⟩
  case round =>
    obtain ⟨k, hk, rfl, hg, hkp⟩ := hrel
    have Hg := Lib.hid hg
    have Hk := Lib.hid hkp
    clear hg hkp
    by_cases hlt : k < 64
    · have cx := (Hg.out.cell k).trans ((bA_at _ k (by rw [xl_length]; exact hlt)).trans (by rw [xl_at xs ys k hlt]))
      have fx := Hg.out.frozen k
      have cy := fun w => run_index_sec w ys k hlt HY.out
      have lx := getD_lt HXb.out k
      have ly := getD_lt HYb.out k
      have hxor := u8_xor_nat _ _ lx ly
      have hset := xl_set xs ys k hlt
      have hgs := Hg.out.set k (.int .u8 ((xs.getD k 0 ^^^ ys.getD k 0 : Nat)))
      rw [bA_set, hset] at hgs
      have Hgs := Lib.hid hgs
      clear hset hgs
      generalize xs.getD k 0 ^^^ ys.getD k 0 = v at *
      generalize xs.getD k 0 = x at *
      generalize ys.getD k 0 = y at *
      have hd : decide ((k : Int) < 64) = true := by simp; omega
      go_wp2_with fail
      go_roundw
      case rel => exact ⟨k + 1, by omega, by go_num, Hgs.out, Hk.out.setCell rfl _⟩
      case measure => simp [intOf]; omega
    · obtain rfl : k = 64 := by omega
      have Hg2 : Hid (Blk wr w.heap.size 34 (bA (zx xs ys 64))) := Lib.hid (by rw [← xl_full]; exact Hg.out)
      have HO2 := Lib.hid (HO0.out.kept Hk.out (by omega))
      have HB2 := Lib.hid (bkept HB0.out (Nat.le_refl _) Hk.out (fun i hi h => by omega))
      clear Hg Hk
      go_wp2_with (first | (refine wpl_load rfl _ rfl (w.heap.size) rfl _ _ _ Hg2.out Try.underlying34 rfl (info_sec (zx_length xs ys 64)) ?_; go_frame) | (refine wpl_store rfl _ _ rfl (w.heap.size + 2) (bA (zx xs ys 64)) rfl rfl _ _ HO2.out (info_sec (zx_length xs ys 64)) (by rw [bA_size, bA_size, zeros_length, zx_length]) (bA_one _) ?_; intro w3 hS3 hK3; have HS3 := Lib.hid hS3; have HK3 := Lib.hid hK3; clear hS3 hK3; go_frame))
      exact bodyPost_ret (v := .agg (bA (zx xs ys 64))) (results_cell_row Try.results16 _ _ (w.heap.size + 2) _ _ (0, 0) _ rfl HS3.out Try.underlying34 rfl (info_sec (zx_length xs ys 64))) rfl ⟨rfl, bkept HB2.out (Nat.le_refl _) HK3.out (fun i hi h => by omega)⟩
end Go.Proofs.Ytajkajgnjcnolaa

namespace Go.Proofs.Ytajkajgnjcnolaa
open Go.RowKit CrcM
set_option linter.unusedVariables false
set_option linter.unnecessarySimpa false
set_option linter.unusedSimpArgs false
end Go.Proofs.Ytajkajgnjcnolaa

namespace Go.Proofs.Ytajkajgnjcnolaa
open Go.RowKit CrcM
set_option linter.unusedVariables false
set_option linter.unnecessarySimpa false
set_option linter.unusedSimpArgs false
structure OwnAt (wb w : World) (v : Value) (bs : List Nat) : Prop where
  own : w.ownsRow wb.heap.size 5 1 v bs.length (bvals bs)
  bel : Below wb.heap.size wb w
  lt : ∀ c ∈ bs, c < 256
theorem OwnAt.made {wb : World} {bs : List Nat} (hb : ∀ c ∈ bs, c < 256) (hm : bs.length ≤ 1000000) : OwnAt wb (wb.alloc (Obj.cells (bA bs) 5)) (.slice (some ⟨wb.heap.size, 0, none⟩) bs.length bs.length) bs := by
  refine ⟨⟨by rw [bvals_length, Nat.mul_one], .inr ⟨wb.heap.size, bs.length, bA bs, rfl, Nat.le_refl _, heap_alloc_new wb _, Nat.le_refl _, by unfold maxLen; omega, by rw [bA_size, Nat.mul_one], ?_⟩⟩, below_alloc _ _, hb⟩
  rw [Nat.mul_one, List.take_of_length_le (by simp [bA, bvals_length])]
  rfl
theorem OwnAt.below {wb w w' : World} {v : Value} {bs : List Nat} (h : OwnAt wb w v bs) (hb : Below w.heap.size w w') : OwnAt wb w' v bs :=
  ⟨own_kept h.own (Kept.of_below (S := fun _ => False) hb) (fun _ _ h => h), h.bel.trans (hb.mono h.bel.size), h.lt⟩
theorem OwnAt.more {wb w w' : World} {v v' : Value} {bs ds : List Nat} (h : OwnAt wb w v bs) (hd : ∀ c ∈ ds, c < 256) (ho : w'.ownsRow wb.heap.size 5 1 v' (bs.length + ds.length) (bvals (bs ++ ds))) (hg : w.grownBy w' v.ownBlock) : OwnAt wb w' v' (bs ++ ds) := by
  refine ⟨by rw [List.length_append]; exact ho, h.bel.grown hg h.bel.size (fun g e => (h.own.lt g e).1), fun c hc => ?_⟩
  rcases List.mem_append.1 hc with h1 | h1
  · exact h.lt c h1
  · exact hd c h1
end Go.Proofs.Ytajkajgnjcnolaa

namespace Go.Proofs.Ytajkajgnjcnolaa
open Go.RowKit CrcM
set_option linter.unusedVariables false
set_option linter.unnecessarySimpa false
set_option linter.unusedSimpArgs false
section
variable {P : Program} {md : Region.Mode} {ops : Array Oper} {Q : Exit → Act → World → Prop} {S : World → Prop}
end
end Go.Proofs.Ytajkajgnjcnolaa

namespace Go.Proofs.Ytajkajgnjcnolaa
open Go.RowKit CrcM
set_option linter.unusedVariables false
set_option linter.unnecessarySimpa false
set_option linter.unusedSimpArgs false
section
variable {P : Program} {w : World} {ops : Array Oper} {rest : List Oper} {o : Oper} {a : Act} {Q : Exit → Act → World → Prop}
end
end Go.Proofs.Ytajkajgnjcnolaa

namespace Go.Proofs.Ytajkajgnjcnolaa
open Go.RowKit CrcM
set_option linter.unusedVariables false
set_option linter.unnecessarySimpa false
set_option linter.unusedSimpArgs false
def mixL (zs : List Int) (bs : List Nat) : List Value := zs.map (fun z => Value.int .i64 z) ++ bvals bs
def mixA (zs : List Int) (bs : List Nat) : Array Value := (mixL zs bs).toArray
theorem mixL_length (zs : List Int) (bs : List Nat) : (mixL zs bs).length = zs.length + bs.length := by simp [mixL, bvals_length]
theorem mixA_size (zs : List Int) (bs : List Nat) : (mixA zs bs).size = zs.length + bs.length := by simp [mixA, mixL_length]
theorem mixA_one (zs : List Int) (bs : List Nat) : (mixA zs bs).all (·.oneCell') = true := by
  simp only [mixA, Array.all_eq_true_iff_forall_mem, List.mem_toArray]
  intro x hx
  rcases List.mem_append.1 hx with h | h
  · obtain ⟨z, _, rfl⟩ := List.mem_map.1 h; rfl
  · exact bvals_one _ x h
theorem mixA_int (zs : List Int) (bs : List Nat) (i : Nat) (h : i < zs.length) : (mixA zs bs)[i]? = some (.int .i64 (zs.getD i 0)) := by
  simp only [mixA, mixL, List.getElem?_toArray]
  rw [List.getElem?_append_left (by simpa using h)]
  simp [h, List.getD]
theorem mixA_byte (zs : List Int) (bs : List Nat) (i : Nat) (h : i < bs.length) : (mixA zs bs)[zs.length + i]? = some (.int .u8 (bs.getD i 0 : Nat)) := by
  simp only [mixA, mixL, List.getElem?_toArray]
  rw [List.getElem?_append_right (by simp)]
  simpa using bvals_at bs i h
theorem mix_range {w : World} {g : Nat} {t : TypeId} {zs : List Int} {bs : List Nat} (h : Blk w g t (mixA zs bs)) : w.rangeAt g zs.length (bvals bs) := by
  intro j v hv
  have hj : j < bs.length := by
    by_cases hj : j < bs.length
    · exact hj
    · rw [List.getElem?_eq_none (by rw [bvals_length]; omega)] at hv; cases hv
  rw [bvals_at bs j hj] at hv
  exact ((h.cell (zs.length + j)).trans (mixA_byte zs bs j hj)).trans hv
structure MixType (P : Program) (t : TypeId) (n k : Nat) : Prop where
  fields : ∃ (fs : List Field) (fb : Field) (e : TypeId), P.underlying t = some (.struct (fs ++ [fb]).toArray) ∧ fs.length = n ∧ IntFields P 0 fs ∧
    fb.name ≠ "_" ∧ fb.offset = n ∧ P.underlying fb.type = some (.array k e) ∧ P.underlying e = some (.int .u8) ∧ P.cellsOf fb.type = k ∧ P.cellsOf e = 1
  cells : P.cellsOf t = n + k
  stood : P.stoodInHeld t = false
  guard : P.eqGuardType P.depth t = false
theorem run_neq_sector {P : Program} {t : TypeId} {n : Nat} (T : BytesType P t n) (xs ys : List Nat) (hx : xs.length = n) (hy : ys.length = n) (w : World) :
    (binOp .neq t (.agg (bA xs)) (.agg (bA ys))).run P w = .ok (.bool (!decide (xs = ys))) w := by
  obtain ⟨e, h1, h2, h3⟩ := T.under
  rw [run_neq_struct, run_equal_bytes w 9998 h1 h2 h3 xs ys hx hy]; rfl
section
open Go.ChangeShapes Go.WideShapes
variable {H : Type} {enc : TypeId × Value → H} {P : Program} {w : World} {base : Nat} {spare : Nat → Bool} {held : Bool}
end
structure EnR where
  k : Int
  f : Int
  c : Int
  b : Int
  m : Int
  t : Int
  y : List Nat
  deriving DecidableEq
section
open Go.ChangeShapes Go.WideShapes
variable {H : Type} {enc : TypeId × Value → H} {P : Program} {w : World} {base : Nat} {spare : Nat → Bool} {held : Bool}
end
section
variable {P : Program} {w : World} {ops : Array Oper} {rest : List Oper} {o : Oper} {a : Act} {Q : Exit → Act → World → Prop}
theorem exec_neq_sector {t : TypeId} {n : Nat} (T : BytesType P t n) (x y : Operand) (rt : TypeId) (ho : o.op = .binOp .neq t x y rt) (xs ys : List Nat) (hx : a.eval x = .agg (bA xs)) (hy : a.eval y = .agg (bA ys)) (hf : xs.length = n) (hg : ys.length = n) (b : Bool) (hb : (!decide (xs = ys)) = b) :
    (execOp a.eval o).run P w = .ok (.value (.bool b)) w := by
  unfold execOp
  simp only [ho, hx, hy, Sem.run_bind, run_eqGuard_agg w .neq t x y (bA xs) (bA ys) T.guard, Result.andThen_ok, run_neq_sector T xs ys hf hg w, Sem.run_pure, hb]
theorem wpl_load_mid (hw : Region.wanted o (yielded ops a.tmps) = true) (ty : TypeId) (x : Operand) (ho : o.op = .load ty x) (b i : Nat) (hx : a.eval x = .pointer (some ⟨b, i, none⟩)) (bs : List Nat) (d : TypeDesc) (hc : w.rangeAt b i (bvals bs))
    (hu : P.underlying ty = some d) (hd : d.isRow = true) (hi : (P.info? ty).map (·.size) = some (bvals bs).length)
    (h : wpList P ops Q rest (a.put o.dst (.agg (bA bs))) w) : wpList P ops Q (o :: rest) a w := by
  unfold wpList
  rw [if_pos hw]
  exact .inl (wp_load_mid ty x ho b i hx (bvals bs) d hc hu hd hi h)
end
end Go.Proofs.Ytajkajgnjcnolaa

namespace Go.Proofs.Ytajkajgnjcnolaa
open Go.RowKit CrcM
set_option linter.unusedVariables false
set_option linter.unnecessarySimpa false
set_option linter.unusedSimpArgs false
def kindB (e : EnR) : Bool :=
  if e.k = 1 then wB e.c 1 4 && decide (e.m = 0)
  else if e.k = 2 then decide (e.c = 1) && wB e.m 1 (256 - e.b) && decide (e.y = zeros 32)
  else if e.k = 3 then decide (e.c = 1) && decide (e.m = 0)
  else false
def rB (e : EnR) : Bool := wB e.f 0 281474976710655 && wB e.b 0 255 && wB e.t 0 65535 && kindB e
end Go.Proofs.Ytajkajgnjcnolaa

namespace Go.Proofs.Ytajkajgnjcnolaa
open Go.RowKit CrcM
set_option linter.unusedVariables false
set_option linter.unnecessarySimpa false
set_option linter.unusedSimpArgs false
theorem list_as {y : List Nat} {n : Nat} (h : y.length = n) : ∃ g : Nat → Nat, y = (List.range n).map g := by
  refine ⟨fun i => y.getD i 0, ?_⟩
  apply List.ext_getElem (by simp [h])
  intro i h1 h2
  simp [List.getD, h1]
def en0 : EnR := ⟨0, 0, 0, 0, 0, 0, zeros 32⟩
end Go.Proofs.Ytajkajgnjcnolaa

namespace Go.Proofs.Ytajkajgnjcnolaa
open Go.RowKit CrcM
set_option linter.unusedVariables false
set_option linter.unnecessarySimpa false
set_option linter.unusedSimpArgs false
def ebod (e : EnR) : List Nat := leb 6 e.f.toNat ++ leb 1 e.c.toNat ++ leb 1 e.b.toNat ++ leb 2 e.m.toNat ++ leb 2 e.t.toNat ++ e.y
end Go.Proofs.Ytajkajgnjcnolaa

namespace Go.Proofs.Ytajkajgnjcnolaa
open Go.RowKit CrcM
set_option linter.unusedVariables false
set_option linter.unnecessarySimpa false
set_option linter.unusedSimpArgs false
def sd (k : Int) (bs : List Nat) : EnR := ⟨k, (num ((bs.drop 0).take 6) : Nat), (num ((bs.drop 6).take 1) : Nat), (num ((bs.drop 7).take 1) : Nat), if k = 2 then (num ((bs.drop 8).take 2) : Nat) else 0, (num ((bs.drop 10).take 2) : Nat), if k = 2 then zeros 32 else (bs.drop 12).take 32⟩
end Go.Proofs.Ytajkajgnjcnolaa

namespace Go.Proofs.Ytajkajgnjcnolaa
open Go.RowKit CrcM
set_option linter.unusedVariables false
set_option linter.unnecessarySimpa false
set_option linter.unusedSimpArgs false
def ofB (k : Int) (bs : List Nat) : Bool := rB (sd k bs) && decide (ebod (sd k bs) = bs)
def amB (e : EnR) (s : Int) : Bool := decide (e.f ≤ s) && decide (s - e.f < e.c)
end Go.Proofs.Ytajkajgnjcnolaa

namespace Go.Proofs.Ytajkajgnjcnolaa
open Go.RowKit CrcM
set_option linter.unusedVariables false
set_option linter.unnecessarySimpa false
set_option linter.unusedSimpArgs false
def frmB (e : EnR) (z o ep sq : Int) : Bool := rB e && amB e sq && rightB ⟨e.k, z, o, ep, sq, ebod e⟩
def rdB (f : FrR) : Bool := ofB f.k f.b && frmB (sd f.k f.b) f.z f.o f.e f.s
def rdV (f : FrR) : EnR := if rdB f = true then sd f.k f.b else en0
end Go.Proofs.Ytajkajgnjcnolaa

namespace Go.Proofs.Ytajkajgnjcnolaa
open Go.RowKit CrcM
set_option linter.unusedVariables false
set_option linter.unnecessarySimpa false
set_option linter.unusedSimpArgs false
theorem OwnAt.nil (wb : World) : OwnAt wb wb (.slice none 0 0) [] := ⟨⟨by simp [bvals], .inl ⟨rfl, rfl⟩⟩, Below.refl _ _, by simp⟩
end Go.Proofs.Ytajkajgnjcnolaa

namespace Go.Proofs.Ytajkajgnjcnolaa
open Go.RowKit CrcM
set_option linter.unusedVariables false
set_option linter.unnecessarySimpa false
set_option linter.unusedSimpArgs false
def doc (k : Int) (bs : List Nat) : EnR := ⟨k, (num (bs.take 6) : Nat), (num ((bs.drop 6).take 1) : Nat), (num ((bs.drop 7).take 1) : Nat), (num ((bs.drop 8).take 2) : Nat), (num ((bs.drop 10).take 2) : Nat), (bs.drop 12).take 32⟩
end Go.Proofs.Ytajkajgnjcnolaa

namespace Go.Proofs.Ytajkajgnjcnolaa
open Go.RowKit CrcM
set_option linter.unusedVariables false
set_option linter.unnecessarySimpa false
set_option linter.unusedSimpArgs false
end Go.Proofs.Ytajkajgnjcnolaa

namespace Go.Proofs.Ytajkajgnjcnolaa
open Go.RowKit CrcM
set_option linter.unusedVariables false
set_option linter.unnecessarySimpa false
set_option linter.unusedSimpArgs false
end Go.Proofs.Ytajkajgnjcnolaa

namespace Go.Proofs.Ytajkajgnjcnolaa
open Go.RowKit CrcM
set_option linter.unusedVariables false
set_option linter.unnecessarySimpa false
set_option linter.unusedSimpArgs false
theorem splice_cons (L : List Value) (o : Nat) (v : Value) (r : List Value) (h : o + (v :: r).length ≤ L.length) : splice (L.set o v) (o + 1) r = splice L o (v :: r) := by
  simp only [List.length_cons] at h
  unfold splice
  have h1 : (L.set o v).take (o + 1) = L.take o ++ [v] := by
    rw [List.take_add_one, List.take_set_of_le (Nat.le_refl o), List.getElem?_set_self (by omega)]
    rfl
  have h2 : (L.set o v).drop (o + 1 + r.length) = L.drop (o + (v :: r).length) := by
    rw [List.drop_set_of_lt (by omega), List.length_cons]
    congr 1; omega
  rw [h1, h2]
  simp
theorem blk_setCells {g : Nat} {t : TypeId} : ∀ (vs : List Value) (o : Nat) (w : World) (L : List Value), Blk w g t L.toArray → o + vs.length ≤ L.length → Blk (w.setCells g o vs) g t (splice L o vs).toArray
  | [], o, w, L, h, _ => by simpa [splice, World.setCells] using h
  | v :: r, o, w, L, h, hf => by
    have h1 := h.set o v
    rw [List.setIfInBounds_toArray] at h1
    have h2 := blk_setCells r (o + 1) _ (L.set o v) h1 (by simp only [List.length_cons, List.length_set] at *; omega)
    rw [splice_cons L o v r hf] at h2
    exact h2
theorem kept_setCells {g : Nat} {w0 : World} : ∀ (vs : List Value) (o : Nat) (w : World), Kept (· = g) w0 w → Kept (· = g) w0 (w.setCells g o vs)
  | [], _, _, h => h
  | v :: r, o, w, h => kept_setCells r (o + 1) _ (h.setCell rfl v)
theorem blk_there {w : World} {g : Nat} {t : TypeId} {L : List Value} (h : Blk w g t L.toArray) (o n : Nat) (hf : o + n ≤ L.length) : w.there g o n := fun j hj => by
  refine ⟨?_, h.frozen _⟩
  rw [h.cell]
  simp [show o + j < L.length by omega]
end Go.Proofs.Ytajkajgnjcnolaa

