/-
  Contracts of layer 5 (geom): the zones of a domain, one by one.
-/
import Derived.Test.YtkjjhcpfblhijaaBaseR
import Derived.Test.YtkjjhcpfblhijaaGeomF
namespace Go.Proofs.Ytkjjhcpfblhijaa
open Go.RowKit Go.Shelf
set_option linter.unusedVariables false
set_option linter.unnecessarySimpa false
set_option linter.unusedSimpArgs false
attribute [local go_sem] Oper.semAt_some

/-- k numbers one behind the other, from b on. -/
def upz (b : Int) (k : Nat) : List Int := (List.range k).map (fun i : Nat => b + (i : Int))
theorem upz_succ (b : Int) (k : Nat) : upz b (k + 1) = upz b k ++ [b + (k : Int)] := by simp [upz, List.range_succ]
theorem upz_length (b : Int) (k : Nat) : (upz b k).length = k := by simp [upz]
theorem upz_prefix (b : Int) (k n : Nat) (h : k ≤ n) : upz b k <+: upz b n := by
  unfold upz
  refine List.IsPrefix.map _ ?_
  rw [List.prefix_iff_eq_take]
  simp [List.take_range, Nat.min_eq_left h]

/-- The zones of a domain. -/
def zoI (g : GeR) (dom : Int) : List Int := if 0 ≤ dom ∧ dom ≤ g.d - 1 then upz (dom * g.z) g.z.toNat else []

theorem in_any (g : GeR) (dom : Int) (w : World) :
    Calls Try.prog 19 #[.agg (geA g), .int .i64 dom] w fun e w' => e = .returned (.func (.func 26) #[] #[.pointer (some ⟨w.heap.size + 1, 0, none⟩), .pointer (some ⟨w.heap.size, 0, none⟩)]) ∧ w' = (w.alloc (Obj.cells (geA g) 23)).alloc (Obj.cells #[.int .i64 dom] 3) := by
  go_enter Try.func19, Try.ntmps19
  go_wp2_with fail
  go_ret
  exact ⟨rfl, rfl⟩

section
variable (Bd Bg : Nat) (g : GeR) (dom : Int) (h : Lim g)

set_option maxRecDepth 100000 in
set_option maxHeartbeats 1000000 in
theorem in1_none (n : Nat) (hn : 1 ≤ n) (hdom : wB dom 0 (g.d - 1) = false) (h : Lim g) (l : Nat) (J Jx : List Int → World → Prop) (W : World) (hD : W.cell? ⟨Bd, 0, none⟩ = some (.int .i64 dom)) (hG : Blk W Bg 23 (geA g)) (h0 : J [] W) :
    CallsIn Fence.wide n Try.prog 26 #[.func (.yield l) #[] #[], .pointer (some ⟨Bd, 0, none⟩), .pointer (some ⟨Bg, 0, none⟩)] W fun e W' => (∃ v, e = .returned v) ∧ ((∃ ys, ys = ([] : List Int) ∧ J ys W') ∨ (∃ pre, pre <+: ([] : List Int) ∧ Jx pre W')) := by
  have c0 := (hG.cell 0).trans (geA_at0 g)
  have Hw := Lib.hid hdom
  obtain ⟨x0, x1⟩ := h.d
  clear hG hdom h
  refine callsIn_of_wp Try.func26 rfl trivial ?_ rfl
  simp only [Try.ntmps26, List.size_toArray, List.length_cons, List.length_nil, Nat.reduceAdd, Nat.reduceSub, Array.replicate_succ, Array.replicate_zero, List.push_toArray, List.append_toArray, List.nil_append, List.cons_append]
  gi_wp2_with (refine ⟨trivial, ?_⟩; gi_at_call 25; refine (callsIn_wide.2 (gwithin_any _ _ _ _)).mono ?_; rintro e w' ⟨rfl, rfl⟩; rw [Hw.out])
  refine bodyPost_ret (results_none rfl _ _ _) rfl ?_
  exact ⟨⟨_, rfl⟩, .inl ⟨[], rfl, h0⟩⟩

set_option maxRecDepth 100000 in
set_option maxHeartbeats 1000000 in
theorem in1_some (n : Nat) (hn : 1 ≤ n) (hdom : wB dom 0 (g.d - 1) = true) (h : Lim g) (l : Nat) (J Jx : List Int → World → Prop) (W : World)
    (hY : ∀ pre x W1, J pre W1 → pre.length < (upz (dom * g.z) g.z.toNat).length → YieldAt Fence.wide (n - 1) Try.prog l #[.int .i64 x] W1 fun e W' => (e = .returned (.bool true) ∧ J (pre ++ [x]) W' ∧ True) ∨ (e = .returned (.bool false) ∧ Jx (pre ++ [x]) W'))
    (hD : W.cell? ⟨Bd, 0, none⟩ = some (.int .i64 dom)) (hG : Blk W Bg 23 (geA g)) (h0 : J [] W) :
    CallsIn Fence.wide n Try.prog 26 #[.func (.yield l) #[] #[], .pointer (some ⟨Bd, 0, none⟩), .pointer (some ⟨Bg, 0, none⟩)] W fun e W' => (∃ v, e = .returned v) ∧ ((∃ ys, ys = upz (dom * g.z) g.z.toNat ∧ J ys W') ∨ (∃ pre, pre <+: upz (dom * g.z) g.z.toNat ∧ Jx pre W')) := by
  have c0 := (hG.cell 0).trans (geA_at0 g)
  have c1 := (hG.cell 1).trans (geA_at1 g)
  have Hw := Lib.hid hdom
  obtain ⟨y0, y1⟩ := (wB_iff _ _ _).1 hdom
  obtain ⟨x0, x1⟩ := h.d
  obtain ⟨x2, x3⟩ := h.z
  obtain ⟨x4, x5⟩ := mul_bd (x := dom) (y := g.z) (a := 0) (b := 7) (c := 1) (d := 64) ⟨y0, by omega⟩ h.z (by omega) (by omega)
  have HY := Lib.hid hY
  clear hG hdom h hY
  refine callsIn_of_wp Try.func26 rfl trivial ?_ rfl
  simp only [Try.ntmps26, List.size_toArray, List.length_cons, List.length_nil, Nat.reduceAdd, Nat.reduceSub, Array.replicate_succ, Array.replicate_zero, List.push_toArray, List.append_toArray, List.nil_append, List.cons_append]
  gi_wp2_with (refine ⟨trivial, ?_⟩; gi_at_call 25; refine (callsIn_wide.2 (gwithin_any _ _ _ _)).mono ?_; rintro e w' ⟨rfl, rfl⟩; rw [Hw.out])
  all_goals try (exfalso; omega)
  gi_loopw [19] (fun i wr => ∃ k : Nat, (k : Int) ≤ g.z ∧ i = .int .i64 k ∧ J (upz (dom * g.z) k) wr) (fun i _ => 64 - (intOf i).toNat)
  case atStart => exact ⟨0, by omega, rfl, h0⟩
  case round =>
    obtain ⟨k, hk, rfl, hJ⟩ := hrel
    by_cases hlt : (k : Int) < g.z
    · obtain ⟨fn, tmps, assign, body, hy, hR⟩ := HY.out _ (dom * g.z + (k : Int)) wr hJ (by rw [upz_length, upz_length]; omega)
      have e := (upz_succ (dom * g.z) k).symm
      gi_wp2
      refine hR.mono ?_
      rintro e W3 (⟨rfl, hJ3, hk3⟩ | ⟨rfl, hJx3⟩)
      · gi_wp2
        go_roundw
        case rel => exact ⟨k + 1, by omega, by go_num, by rw [upz_succ]; exact hJ3⟩
        case measure => simp [intOf]; omega
      · gi_wp2
        refine bodyPost_ret (results_none rfl _ _ _) rfl ?_
        exact ⟨⟨_, rfl⟩, .inr ⟨_, by rw [← upz_succ]; exact upz_prefix _ _ _ (by omega), hJx3⟩⟩
    · gi_wp2
      go_end0
      exact ⟨⟨_, rfl⟩, .inl (by rw [show g.z.toNat = k by omega]; exact hJ)⟩

theorem in_gives (n : Nat) (hn : 1 ≤ n) (h : Lim g) (w : World) (hD : w.cell? ⟨Bd, 0, none⟩ = some (.int .i64 dom)) (hG : Blk w Bg 23 (geA g)) (hd : Bd < w.heap.size) :
    Gives n Try.prog 26 #[.pointer (some ⟨Bd, 0, none⟩), .pointer (some ⟨Bg, 0, none⟩)] (zoI g dom) w := by
  intro l J Jx W hW _ _ hY h0
  have hD' := (hW.cell (p := ⟨Bd, 0, none⟩) hd).trans hD
  have hG' := hG.below hW hG.lt
  unfold zoI at *
  by_cases hc : 0 ≤ dom ∧ dom ≤ g.d - 1
  · rw [if_pos hc] at *
    exact in1_some Bd Bg g dom n hn ((wB_iff _ _ _).2 hc) h l J Jx W hY hD' hG' h0
  · rw [if_neg hc] at *
    exact in1_none Bd Bg g dom n hn (by cases hb : wB dom 0 (g.d - 1) with | false => rfl | true => exact absurd ((wB_iff _ _ _).1 hb) hc) h l J Jx W hD' hG' h0
end

end Go.Proofs.Ytkjjhcpfblhijaa
