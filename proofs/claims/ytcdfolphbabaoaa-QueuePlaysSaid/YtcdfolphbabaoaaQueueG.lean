/-
  Contracts of layer 9 (queue): All, thing by thing.
-/
import Derived.Test.YtcdfolphbabaoaaQueueF
import Derived.Test.YtcdfolphbabaoaaBaseX
import Derived.Test.YtcdfolphbabaoaaZoneD
namespace Go.Proofs.Ytcdfolphbabaoaa
open Go.RowKit Go.Shelf
attribute [local go_sem] Oper.semAt_some
set_option linter.unusedVariables false
set_option linter.unnecessarySimpa false
set_option linter.unusedSimpArgs false

/-- A queue's channel was turned: it has what it had. -/
structure TnQ (C : Nat) (a b : World) : Prop where
  k : Kept (· = C) a b
  ch : ∀ cap buf s r, a.heap[C]? = some (.chan cap buf false s r false) → ∃ s' r', b.heap[C]? = some (.chan cap buf false s' r' false)
theorem TnQ.of {T E : TypeId} {β : Type} {enc : β → Value} {lo lo' A C room : Nat} {a b : World} {qs : List (Nat × β)} (h : QAt T E enc lo a A C room qs) (h' : QAt T E enc lo' b A C room qs) (k : Kept (· = C) a b) : TnQ C a b := ⟨k, fun cap buf s r hc => by
  obtain ⟨s0, r0, h0⟩ := h.ch
  rw [hc] at h0
  cases h0
  obtain ⟨s1, r1, h1⟩ := h'.ch
  exact ⟨s1, r1, h1⟩⟩
theorem QAt.tn {T E : TypeId} {β : Type} {enc : β → Value} {lo A C room : Nat} {a b : World} {qs : List (Nat × β)} (h : QAt T E enc lo a A C room qs) (t : TnQ C a b) : QAt T E enc lo b A C room qs := by
  obtain ⟨s, r, hc⟩ := h.ch
  exact ⟨h.far t.k h.blk, t.ch _ _ _ _ hc, fun x hx => ⟨(h.box x hx).1, h.far t.k (h.box x hx).2⟩, h.leA, h.leC, h.len, h.room⟩
/-- Blocks of cells are as they were, but for those in S. -/
def KpS (S : Nat → Prop) (a b : World) : Prop := ∀ g t cs, Blk a g t cs → ¬ S g → Blk b g t cs
theorem KpS.refl (S : Nat → Prop) (a : World) : KpS S a a := fun _ _ _ h _ => h
theorem KpS.trans {S : Nat → Prop} {a b c : World} (h : KpS S a b) (k : KpS S b c) : KpS S a c := fun g t cs hb hn => k g t cs (h g t cs hb hn) hn
theorem KpS.put {S : Nat → Prop} (W : World) (l : Nat) (o o' : Obj) (h : W.heap[l]? = some o) (hc : o.isCells = false) : KpS S W (W.putObj l o') := fun g t cs hb _ => by
  have hne : g ≠ l := by rintro rfl; unfold Blk at hb; rw [hb] at h; cases h; cases hc
  exact (World.putObj_heap_other hne).trans hb
theorem KpS.set {S : Nat → Prop} {W : World} {p : Addr} (u : Value) (h : S p.block) : KpS S W (W.setCell p u) := fun g t cs hb hn => hb.far (fun e => hn (by rw [e]; exact h)) u
theorem own_kps {S : Nat → Prop} {a b : World} {lo : Nat} {e : TypeId} {v : Value} {n : Nat} {xs : List Value} (h : a.ownsRow lo e 1 v n xs) (k : KpS S a b) (hn : ∀ g, v.ownBlock = some g → ¬ S g) : b.ownsRow lo e 1 v n xs := by
  obtain ⟨h1, h2⟩ := h
  refine ⟨h1, ?_⟩
  rcases h2 with h2 | ⟨g, cap, cur, rfl, hg, hh, r⟩
  · exact .inl h2
  · exact .inr ⟨g, cap, cur, rfl, hg, k g e cur hh (hn g rfl), r⟩
theorem qall_any {A : Nat} (w : World) :
    Calls Try.prog 16 #[.pointer (some ⟨A, 0, none⟩)] w fun e w' => e = .returned (.func (.func 27) #[] #[.pointer (some ⟨w.heap.size, 0, none⟩)]) ∧ w' = w.alloc (Obj.cells #[.pointer (some ⟨A, 0, none⟩)] 24) := by
  go_enter Try.func16, Try.ntmps16
  go_wp2_with fail
  go_ret
  exact ⟨rfl, rfl⟩
set_option maxRecDepth 100000 in
set_option maxHeartbeats 2000000 in
theorem qall_gives {lo A C room Bp : Nat} {w : World} {qs : List (Nat × Int)} {S : Nat → Prop} (h : QAt 59 3 encI lo w A C room qs) (hB : Blk w Bp 24 #[.pointer (some ⟨A, 0, none⟩)]) (hS : ∀ g, S g → g < w.heap.size) (hSb : ∀ x ∈ qs, ¬ S x.1) :
    SeqT Fence.wide 7 Try.prog 27 #[.pointer (some ⟨Bp, 0, none⟩)] encP (KpS S) (TnQ C) (fun ys => ys = numb (qs.map (·.2)) qs.length) (fun pre => pre <+: numb (qs.map (·.2)) qs.length) qs.length w := by
  intro l J Jx W hW _ _ hJT hY h0
  have HQ := Lib.hid (h.below hW)
  have HB := Lib.hid (hB.below hW hB.lt)
  have cB : W.cell? ⟨Bp, 0, none⟩ = some (.pointer (some ⟨A, 0, none⟩)) := blk_one HB.out
  have HS : Hid (∀ g, S g → g < W.heap.size) := Lib.hid (fun g hg => Nat.lt_of_lt_of_le (hS g hg) hW.size)
  have HSb := Lib.hid hSb
  have HY := Lib.hid hY
  have HJT := Lib.hid hJT
  have HJ0 := Lib.hid h0
  have hn4 : qs.length ≤ 4096 := Nat.le_trans h.len h.room
  clear h hB hS hSb hY hJT h0 hW
  refine callsIn_of_wp Try.func27 rfl trivial ?_ rfl
  simp only [Try.ntmps27, List.size_toArray, List.length_cons, List.length_nil, Nat.reduceAdd, Nat.reduceSub, Array.replicate_succ, Array.replicate_zero, List.push_toArray, List.append_toArray, List.nil_append, List.cons_append]
  gi_wp2
  refine ⟨trivial, (callsIn_wide.2 (qlist HQ.out)).mono ?_⟩
  rintro e W2 ⟨v, rfl, hv, hQ2, hk2⟩
  obtain ⟨av, cv, rfl⟩ := own_slice hv
  have hvc : qs.length ≤ cv ∧ cv ≤ 9223372036854775807 := by have := own_cap hv; unfold maxLen at this; omega
  obtain ⟨hv3, hv4⟩ := hvc
  have HJ2 := Lib.hid (HJT.out _ _ _ HJ0.out (TnQ.of HQ.out hQ2 hk2))
  have HV2 := Lib.hid hv
  have HQ2 := Lib.hid hQ2
  clear hv hQ2 hk2
  gi_wp2
  gi_loopw [8] (fun i wr => ∃ k : Nat, k ≤ qs.length ∧ i = .int .i64 k ∧ J (numb (qs.map (·.2)) k) wr ∧ KpS S W2 wr) (fun i _ => qs.length - (intOf i).toNat)
  case atStart => exact ⟨0, Nat.zero_le _, rfl, HJ2.out, KpS.refl _ _⟩
  case round =>
    obtain ⟨k, hk, rfl, hJ, hK⟩ := hrel
    by_cases hlt : k < qs.length
    · obtain ⟨bv, rfl, hbv, _, hcv, _⟩ := own_at (own_kps HV2.out hK (fun g hg hs => by have := HS.out g hs; have := own_ge HV2.out g hg; omega)) k hlt
      rw [ptrs_at qs k hlt] at hcv
      have hbx : wr.cell? ⟨(qs[k]).1, 0, none⟩ = some (.int .i64 (qs[k]).2) := blk_one (hK _ _ _ (HQ2.out.box qs[k] (List.getElem_mem hlt)).2 (HSb.out _ (List.getElem_mem hlt)))
      have hz : (qs.map (·.2)).getD k 0 = (qs[k]).2 := by simp [List.getD, hlt]
      have He := Lib.hid (numb_succ (qs.map (·.2)) k)
      obtain ⟨fn, tmps, assign, body, hy, hR⟩ := HY.out _ (k, (qs.map (·.2)).getD k 0) wr hJ (by rw [numb_length]; exact hlt)
      unfold encP at hy
      dsimp only at hy
      rw [hz] at hy hR He
      have HK := Lib.hid hK
      clear hK hz hJ
      generalize qs[k] = x at *
      obtain ⟨xp, xz⟩ := x
      dsimp only at hbx hcv hy hR He
      gi_wp2
      refine hR.mono ?_
      rintro e W3 (⟨rfl, hJ3, hk3⟩ | ⟨rfl, hJx3⟩)
      · gi_wp2
        go_roundw
        case rel => exact ⟨k + 1, by omega, by go_num, by rw [He.out]; exact hJ3, HK.out.trans hk3⟩
        case measure => simp [intOf]; omega
      · gi_wp2
        refine bodyPost_ret (results_none rfl _ _ _) rfl ?_
        exact ⟨⟨_, rfl⟩, .inr ⟨_, by rw [← He.out]; exact numb_prefix _ _ _ (by omega), hJx3⟩⟩
    · obtain rfl : k = qs.length := by omega
      gi_wp2
      go_end0
      exact ⟨⟨_, rfl⟩, .inl ⟨_, rfl, hJ⟩⟩

end Go.Proofs.Ytcdfolphbabaoaa
