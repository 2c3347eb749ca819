/-
  Layer 9 (queue): the document's example.
-/
import Derived.Test.YtcdfolphbabaoaaQueueC
namespace Go.Proofs.Ytcdfolphbabaoaa
open Go.RowKit Go.Conc
set_option linter.unusedVariables false
set_option linter.unnecessarySimpa false
set_option linter.unusedSimpArgs false

theorem QAt.lo_le {T E : TypeId} {β : Type} {enc : β → Value} {lo lo' A C room : Nat} {w : World} {qs : List (Nat × β)} (h : QAt T E enc lo w A C room qs) (hl : lo' ≤ lo) : QAt T E enc lo' w A C room qs :=
  ⟨h.blk, h.ch, fun x hx => ⟨Nat.le_trans hl (h.box x hx).1, (h.box x hx).2⟩, Nat.le_trans hl h.leA, Nat.le_trans hl h.leC, h.len, h.room⟩
/-- What a step of a queue leaves of what lay below. -/
theorem QAt.bel {T E : TypeId} {β : Type} {enc : β → Value} {lo A C room : Nat} {w w1 w2 : World} {qs : List (Nat × β)} (h : QAt T E enc lo w1 A C room qs) (hb : Below w.heap.size w w1) (hl : w.heap.size ≤ lo) (k : Kept (· = C) w1 w2) : Below w.heap.size w w2 :=
  bkept hb (Nat.le_refl _) k (fun i hi e => by have := h.leC; omega)
set_option maxRecDepth 100000 in
set_option maxHeartbeats 2000000 in
theorem anchor9_any (w : World) : Calls Try.prog 7 #[] w fun e w' => e = .returned (.bool true) ∧ Below w.heap.size w w' := by
  go_enter Try.func7, Try.ntmps7
  go_wp2_with fail
  refine (qnewI_ok 4 w (by decide) (by decide)).mono ?_
  rintro e w1 ⟨rfl, hb1, hq1⟩
  have HB1 := Lib.hid hb1
  have HQ1 := Lib.hid hq1
  clear hb1 hq1
  go_wp2_with fail
  refine (qputI_room 1 HQ1.out (by simp)).mono ?_
  rintro e w2 ⟨rfl, p, hq2, hk2, -⟩
  have HB2 := Lib.hid (HQ1.out.bel HB1.out (Nat.le_refl _) hk2)
  have HQ2 := Lib.hid hq2
  clear HB1 HQ1 hq2 hk2
  go_wp2_with fail
  refine (qputI_room 2 HQ2.out (by simp)).mono ?_
  rintro e w3 ⟨rfl, p', hq3, hk3, -⟩
  have HB3 := Lib.hid (HQ2.out.bel HB2.out (Nat.le_refl _) hk3)
  have HQ3 := Lib.hid hq3
  clear HB2 HQ2 hq3 hk3
  go_wp2_with fail
  refine (qtakeI_some (x := (p, 1)) (qs := [(p', 2)]) HQ3.out).mono ?_
  rintro e w4 ⟨rfl, hq4, hk4⟩
  have HB4 := Lib.hid (HQ3.out.bel HB3.out (Nat.le_refl _) hk4)
  have HQ4 := Lib.hid hq4
  clear HB3 HQ3 hq4 hk4
  go_wp2_with fail
  refine (qlenI HQ4.out).mono ?_
  rintro e w5 ⟨rfl, rfl⟩
  go_wp2_with fail
  go_ret
  exact ⟨rfl, HB4.out⟩

end Go.Proofs.Ytcdfolphbabaoaa
