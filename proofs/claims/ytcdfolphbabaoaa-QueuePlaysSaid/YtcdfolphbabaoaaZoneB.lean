/-
  Contracts of layer 6 (zone), at int and at string: New, refusal, Len, State, holds, Append, Read, Reset.
-/
import Derived.Test.YtcdfolphbabaoaaZoneA
namespace Go.Proofs.Ytcdfolphbabaoaa
open Go.RowKit
set_option linter.unusedVariables false
set_option linter.unnecessarySimpa false
set_option linter.unusedSimpArgs false

/-- The fields of a zone that is empty. -/
def zo0 (size : Int) : ZoR := ⟨size, 0, false, 0, []⟩
theorem zo0_ok {size : Int} (h : 1 ≤ size ∧ size ≤ 64) : ZOk (zo0 size) := ⟨h, by simp [zo0]; omega, by simp [zo0], .inl rfl, by simp [zo0]⟩
theorem zat_new {T E : TypeId} {lo : Nat} (w : World) (size : Int) (hlo : lo ≤ w.heap.size) : ZAt T E lo (w.alloc (Obj.cells (zoA (zo0 size) (.slice none 0 0)) T)) w.heap.size (.slice none 0 0) (zo0 size) :=
  ⟨Blk.new _ _ _, own_nil _ _ _, hlo⟩
/-- What an Append tells; what it leaves. -/
def apE (z : ZoR) : Int := if refI z ≠ 0 then refI z else if stI z = 2 then 17 else 0
def apO (z : ZoR) : Int := if apE z = 0 then (z.xs.length : Int) else 0
def apZ (z : ZoR) (x : Value) : ZoR := if apE z = 0 then { z with xs := z.xs ++ [x] } else z
/-- What a Read tells. -/
def zrdE (z : ZoR) (off : Int) : Int := if z.failed = 4 then 32 else if zholB z off = true then 0 else 31
def zrdV (n : Value) (z : ZoR) (off : Int) : Value := if zrdE z off = 0 then z.xs.getD off.toNat n else n
/-- What a Reset leaves. -/
def rsZ (z : ZoR) : ZoR := if refI z = 0 then zo0 z.size else z
theorem below_eq {w w' : World} (h : w = w') : Below w.heap.size w w' := h ▸ Below.refl _ _
theorem zoA_one (z : ZoR) (a : Option Addr) (n c : Nat) : (zoA z (.slice a n c)).all (·.oneCell') = true := by
  simp only [zoA, Array.all_eq_true_iff_forall_mem, List.mem_toArray]
  intro x hx
  rcases List.mem_cons.1 hx with rfl | hx
  · rfl
  rcases List.mem_cons.1 hx with rfl | hx
  · rfl
  rcases List.mem_cons.1 hx with rfl | hx
  · rfl
  rcases List.mem_cons.1 hx with rfl | hx
  · rfl
  rcases List.mem_cons.1 hx with rfl | hx
  · rfl
  cases hx
theorem src_one (w : World) (E : TypeId) (x : Value) : ∀ ad, some (⟨w.heap.size, 0, none⟩ : Addr) = some ad → ∀ j u, [x][j]? = some u → (w.alloc (Obj.cells #[x] E)).cell? (ad.add j) = some u := by
  intro ad e j u hu
  cases e
  rcases j with _ | j
  · cases hu
    exact (Blk.new w E #[x]).cell 0
  · simp at hu
theorem zf_set {w : World} {A i : Nat} {v u : Value} : Kept (ZF A v) w (w.setCell ⟨A, i, none⟩ u) := (Kept.refl (ZF A v) w).setCell (p := ⟨A, i, none⟩) (.inl rfl) u
theorem zf_at {w w' : World} {A : Nat} {v : Value} (h : Kept (· = A) w w') : Kept (ZF A v) w w' := h.mono (fun _ _ e => .inl e)

theorem Try.infoI : (Try.prog.info? 3).map (fun i => (i.zero, i.size, i.bytes)) = some (some (.int .i64 0), 1, 8) := by kernel_rfl
theorem elI : ElT Try.prog 28 3 (.int .i64 0) := by
  obtain ⟨i0, hi, hz0, hz1, hz2⟩ := info_parts Try.infoI
  exact ⟨Try.underlying28, ⟨i0, 8, hi, hz0, hz1, hz2, by decide⟩, rfl⟩
theorem Try.infoS : (Try.prog.info? 9).map (fun i => (i.zero, i.size, i.bytes)) = some (some (.string ⟨#[]⟩), 1, 16) := by kernel_rfl
theorem elS : ElT Try.prog 46 9 (.string ⟨#[]⟩) := by
  obtain ⟨i0, hi, hz0, hz1, hz2⟩ := info_parts Try.infoS
  exact ⟨Try.underlying46, ⟨i0, 16, hi, hz0, hz1, hz2, by decide⟩, rfl⟩
end Go.Proofs.Ytcdfolphbabaoaa
