/-
  Geometries as values; what the document says of them.
-/
import Derived.Test.YtkjjhcpfblhijaaBaseS
namespace Go.Proofs.Ytkjjhcpfblhijaa
open Go.RowKit
set_option linter.unusedVariables false
set_option linter.unnecessarySimpa false
set_option linter.unusedSimpArgs false

/-- A geometry as it reads. -/
structure GeR where
  d : Int
  z : Int
  s : Int
  b : Int
  p : Int
  o : Int
  deriving DecidableEq

def geZ (g : GeR) : List Int := [g.d, g.z, g.s, g.b, g.p, g.o]
def geA (g : GeR) : Array Value := intsA (geZ g)
theorem geA_size (g : GeR) : (geA g).size = 6 := intsA_size _
theorem geA_one (g : GeR) : (geA g).all (·.oneCell') = true := intsA_one _
theorem geA_at0 (g : GeR) : (geA g)[0]? = some (.int .i64 g.d) := rfl
theorem geA_at1 (g : GeR) : (geA g)[1]? = some (.int .i64 g.z) := rfl
theorem geA_at2 (g : GeR) : (geA g)[2]? = some (.int .i64 g.s) := rfl
theorem geA_at3 (g : GeR) : (geA g)[3]? = some (.int .i64 g.b) := rfl
theorem geA_at4 (g : GeR) : (geA g)[4]? = some (.int .i64 g.p) := rfl
theorem geA_at5 (g : GeR) : (geA g)[5]? = some (.int .i64 g.o) := rfl
/-- What an argument's geometry is. -/
def GeOk (g : GeR) : Prop := ∀ z ∈ geZ g, (Lit.int .i64 z).wf = true
theorem info_geA (g : GeR) : (Try.prog.info? 23).map (·.size) = some (geA g).size := by rw [geA_size]; kernel_rfl
theorem info_grA (g : GeR) : (Try.prog.info? 25).map (·.size) = some (geA g).size := by rw [geA_size]; kernel_rfl
theorem tyGe : IntsType Try.prog 23 6 :=
  ⟨⟨[_, _, _, _, _, _], Try.underlying23, rfl, ⟨⟨by decide, Try.underlying3, rfl, Try.cellsI⟩, ⟨by decide, Try.underlying3, rfl, Try.cellsI⟩, ⟨by decide, Try.underlying3, rfl, Try.cellsI⟩, ⟨by decide, Try.underlying3, rfl, Try.cellsI⟩, ⟨by decide, Try.underlying3, rfl, Try.cellsI⟩, ⟨by decide, Try.underlying3, rfl, Try.cellsI⟩, trivial⟩⟩, by kernel_rfl, by kernel_rfl, by kernel_rfl⟩
theorem tyGr : IntsType Try.prog 25 6 :=
  ⟨⟨[_, _, _, _, _, _], Try.underlying25, rfl, ⟨⟨by decide, Try.underlying3, rfl, Try.cellsI⟩, ⟨by decide, Try.underlying3, rfl, Try.cellsI⟩, ⟨by decide, Try.underlying3, rfl, Try.cellsI⟩, ⟨by decide, Try.underlying3, rfl, Try.cellsI⟩, ⟨by decide, Try.underlying3, rfl, Try.cellsI⟩, ⟨by decide, Try.underlying3, rfl, Try.cellsI⟩, trivial⟩⟩, by kernel_rfl, by kernel_rfl, by kernel_rfl⟩

section
open Go.ChangeShapes Go.WideShapes
variable {H : Type} {enc : TypeId × Value → H} {P : Program} {w : World} {base : Nat} {spare : Nat → Bool} {held : Bool}
theorem open_geomA {r : Reach} {b0 : Nat} {t : TypeId} {v : Value} {d : DataW H} {p : List MemPlace} (T : IntsType P t 6) (hv : Value.okWide P w r b0 t v) (h : DataW.Trod enc P w base spare held t v d p) :
    ∃ g : GeR, v = .agg (geA g) ∧ GeOk g := by
  obtain ⟨zs, rfl, hz, hwf⟩ := open_intsA T hv h
  match zs, hz, hwf with
  | [z0, z1, z2, z3, z4, z5], _, hwf => exact ⟨⟨z0, z1, z2, z3, z4, z5⟩, rfl, hwf⟩
end

/-- Each number is within its limits. -/
def limB (g : GeR) : Bool := wB g.d 3 8 && wB g.z 1 64 && wB g.s 4 64 && wB g.b 1 256 && wB g.p 0 4 && wB g.o 4 64
structure Lim (g : GeR) : Prop where
  d : 3 ≤ g.d ∧ g.d ≤ 8
  z : 1 ≤ g.z ∧ g.z ≤ 64
  s : 4 ≤ g.s ∧ g.s ≤ 64
  b : 1 ≤ g.b ∧ g.b ≤ 256
  p : 0 ≤ g.p ∧ g.p ≤ 4
  o : 4 ≤ g.o ∧ g.o ≤ 64
theorem lim_iff (g : GeR) : limB g = true ↔ Lim g := by
  simp only [limB, Bool.and_eq_true, wB_iff]
  exact ⟨fun ⟨⟨⟨⟨⟨a, b⟩, c⟩, d⟩, e⟩, f⟩ => ⟨a, b, c, d, e, f⟩, fun ⟨a, b, c, d, e, f⟩ => ⟨⟨⟨⟨⟨a, b⟩, c⟩, d⟩, e⟩, f⟩⟩

/-- How many parts, zones that may fail, pairs held back, safe zones, used zones, full segments. -/
def parI (g : GeR) : Int := 1 + g.b / 2 + g.b % 2
def faiI (g : GeR) : Int := g.d * g.p
def resI (g : GeR) : Int := faiI g + 4
def safI (g : GeR) : Int := g.z - g.p - 2
def us1 (g : GeR) : Int := (g.d - 1) * safI g - resI g + 1
def us2 (g : GeR) : Int := g.d * safI g - 2 * resI g + 1
def useI (g : GeR) : Int := if us2 g < us1 g then us2 g else us1 g
def segI (g : GeR) : Int := useI g / 2 - 1 - faiI g
def allI (g : GeR) : Int := g.d * g.z
def comI (g : GeR) : Int := 64 * (allI g + 2) * (allI g + 2) * (g.s + 2) * (g.b + g.s + parI g + 4)
def pasI (g : GeR) : Int := 3 * (faiI g + 2) * (g.b + 3)
/-- May a geometry be? -/
def gB (g : GeR) : Bool := limB g && decide (parI g ≤ g.s) && decide (2 * g.b ≤ g.s * segI g)

theorem mul_bd {x y a b c d : Int} (hx : a ≤ x ∧ x ≤ b) (hy : c ≤ y ∧ y ≤ d) (ha : 0 ≤ a) (hc : 0 ≤ c) : a * c ≤ x * y ∧ x * y ≤ b * d :=
  ⟨Int.mul_le_mul hx.1 hy.1 hc (by omega), Int.mul_le_mul hx.2 hy.2 (by omega) (by omega)⟩
/-- .. also where y may be below nought. -/
theorem mul_bd' {x y b c d : Int} (hx : 0 ≤ x ∧ x ≤ b) (hy : -c ≤ y ∧ y ≤ d) (hc : 0 ≤ c) (hd : 0 ≤ d) : -(b * c) ≤ x * y ∧ x * y ≤ b * d := by
  by_cases h : 0 ≤ y
  · have := mul_bd (a := 0) (c := 0) hx ⟨h, hy.2⟩ (by omega) (by omega)
    have h2 : 0 ≤ b * c := Int.mul_nonneg (by omega) hc
    omega
  · have := mul_bd (a := 0) (c := 0) hx (y := -y) (d := c) ⟨by omega, by omega⟩ (by omega) (by omega)
    rw [Int.mul_neg] at this
    have h2 : 0 ≤ b * d := Int.mul_nonneg (by omega) hd
    omega

section
variable {g : GeR} (h : Lim g)
include h
theorem fai_bd : 0 ≤ faiI g ∧ faiI g ≤ 32 := by have := mul_bd h.d h.p (by omega) (by omega); unfold faiI; omega
theorem res_bd : 4 ≤ resI g ∧ resI g ≤ 36 := by have := fai_bd h; unfold resI; omega
theorem saf_bd : -5 ≤ safI g ∧ safI g ≤ 62 := by have := h.z; have := h.p; unfold safI; omega
theorem dsaf_bd : -40 ≤ g.d * safI g ∧ g.d * safI g ≤ 496 := by
  have := mul_bd' (b := 8) (c := 5) (d := 62) ⟨by have := h.d; omega, h.d.2⟩ (saf_bd h) (by omega) (by omega); omega
theorem d1saf_bd : -35 ≤ (g.d - 1) * safI g ∧ (g.d - 1) * safI g ≤ 434 := by
  have := mul_bd' (x := g.d - 1) (b := 7) (c := 5) (d := 62) (by have := h.d; omega) (saf_bd h) (by omega) (by omega); omega
theorem us1_bd : -100 ≤ us1 g ∧ us1 g ≤ 500 := by have := d1saf_bd h; have := res_bd h; unfold us1; omega
theorem us2_bd : -200 ≤ us2 g ∧ us2 g ≤ 500 := by have := dsaf_bd h; have := res_bd h; unfold us2; omega
theorem use_bd : -200 ≤ useI g ∧ useI g ≤ 500 := by have := us1_bd h; have := us2_bd h; unfold useI; split <;> omega
theorem seg_bd : -200 ≤ segI g ∧ segI g ≤ 300 := by have := use_bd h; have := fai_bd h; unfold segI; omega
theorem sseg_bd : -12800 ≤ g.s * segI g ∧ g.s * segI g ≤ 19200 := by
  have := mul_bd' (b := 64) (c := 200) (d := 300) ⟨by have := h.s; omega, h.s.2⟩ (seg_bd h) (by omega) (by omega); omega
theorem all_bd : 3 ≤ allI g ∧ allI g ≤ 512 := by have := mul_bd h.d h.z (by omega) (by omega); unfold allI; omega
theorem par_bd : 2 ≤ parI g ∧ parI g ≤ 130 := by have := h.b; unfold parI; omega
theorem com1_bd : 320 ≤ 64 * (allI g + 2) ∧ 64 * (allI g + 2) ≤ 32896 := by have := all_bd h; omega
theorem com2_bd : 1600 ≤ 64 * (allI g + 2) * (allI g + 2) ∧ 64 * (allI g + 2) * (allI g + 2) ≤ 16908544 := by
  have := mul_bd (com1_bd h) (y := allI g + 2) (c := 5) (d := 514) (by have := all_bd h; omega) (by omega) (by omega); omega
theorem com3_bd : 9600 ≤ 64 * (allI g + 2) * (allI g + 2) * (g.s + 2) ∧ 64 * (allI g + 2) * (allI g + 2) * (g.s + 2) ≤ 1115963904 := by
  have := mul_bd (com2_bd h) (y := g.s + 2) (c := 6) (d := 66) (by have := h.s; omega) (by omega) (by omega); omega
theorem com_bd : 1 ≤ comI g ∧ comI g ≤ 1000000000000 := by
  have := mul_bd (com3_bd h) (y := g.b + g.s + parI g + 4) (c := 11) (d := 454) (by have := h.s; have := h.b; have := par_bd h; omega) (by omega) (by omega)
  unfold comI; omega
theorem pas1_bd : 6 ≤ 3 * (faiI g + 2) ∧ 3 * (faiI g + 2) ≤ 102 := by have := fai_bd h; omega
theorem pas_bd : 6 * (g.b + 3) ≤ pasI g ∧ pasI g ≤ 100000 := by
  have h1 := mul_bd (pas1_bd h) (y := g.b + 3) (c := g.b + 3) (d := 259) (by have := h.b; omega) (by omega) (by have := h.b; omega)
  unfold pasI; exact ⟨h1.1, by omega⟩
end
theorem gB_iff (g : GeR) : gB g = true ↔ Lim g ∧ parI g ≤ g.s ∧ 2 * g.b ≤ g.s * segI g := by
  simp only [gB, Bool.and_eq_true, lim_iff, decide_eq_true_eq, and_assoc]
theorem gB_lim {g : GeR} (h : gB g = true) : Lim g := ((gB_iff g).1 h).1

end Go.Proofs.Ytkjjhcpfblhijaa
