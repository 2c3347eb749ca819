/-
  Contracts of layer 9 (queue): send and receive at a queue; list.
-/
import Derived.Test.YtcdfolphbabaoaaQueueD
import Derived.Test.YtcdfolphbabaoaaZoneB
namespace Go.Proofs.Ytcdfolphbabaoaa
open Go.RowKit Go.Conc
set_option linter.unusedVariables false
set_option linter.unnecessarySimpa false
set_option linter.unusedSimpArgs false

/-- A row grows that was begun later: all that lay there stays. -/
theorem kept_grown {S : Nat → Prop} {w a b : World} {row : Option Nat} (h : Kept S w a) (hg : a.grownBy b row) (hr : ∀ g, row = some g → w.heap.size ≤ g) : Kept S w b :=
  ⟨hg.os.trans h.os, hg.tape.trans h.tape, hg.output.trans h.output, Nat.le_trans h.size hg.size, fun k hk hn => (hg.block k (Nat.lt_of_lt_of_le hk h.size) (fun e => by have := hr k e.symm; omega)).trans (h.block k hk hn)⟩
/-- The blocks of a queue lie below n. -/
structure QOld {β : Type} (n A C : Nat) (qs : List (Nat × β)) : Prop where
  a : A < n
  c : C < n
  b : ∀ x ∈ qs, x.1 < n
section
variable {T E : TypeId} {β : Type} {enc : β → Value} {lo A C room n : Nat} {w a b : World} {qs qs' : List (Nat × β)}
theorem QAt.old (h : QAt T E enc lo w A C room qs) : QOld w.heap.size A C qs := ⟨h.ltA, h.ltC, h.ltB⟩
theorem QOld.sub (h : QOld n A C qs) (hs : ∀ x ∈ qs', x ∈ qs) : QOld n A C qs' := ⟨h.a, h.c, fun x hx => h.b x (hs x hx)⟩
theorem QAt.grown (h : QAt T E enc lo a A C room qs) (o : QOld n A C qs) {row : Option Nat} (hg : a.grownBy b row) (hr : ∀ g, row = some g → n ≤ g) : QAt T E enc lo b A C room qs :=
  h.kept (S := fun k => row = some k) ⟨hg.os, hg.tape, hg.output, hg.size, fun k hk hn => hg.block k hk (fun e => hn e.symm)⟩ (fun e => by have := hr _ e; have := o.a; omega) (fun e => by have := hr _ e; have := o.c; omega) (fun x hx e => by have := hr _ e; have := o.b x hx; omega)
theorem own_ge {base : Nat} {e : TypeId} {v : Value} {n : Nat} {xs : List Value} (h : w.ownsRow base e 1 v n xs) : ∀ g, v.ownBlock = some g → base ≤ g := fun g hg => by
  rcases h.2 with ⟨rfl, _⟩ | ⟨g', c, cur, rfl, hb, _⟩
  · simp [Value.ownBlock] at hg
  · obtain rfl : g' = g := by simpa [Value.ownBlock] using hg
    exact hb
end
theorem ptrs_take_snoc {β : Type} (qs : List (Nat × β)) (k : Nat) (h : k < qs.length) : ptrs (qs.take (k + 1)) = ptrs (qs.take k) ++ [.pointer (some ⟨(qs[k]).1, 0, none⟩)] := by
  rw [List.take_succ_eq_append_getElem h, ptrs_append]; rfl
theorem rot_mem {β : Type} (qs : List β) (k : Nat) : ∀ x ∈ qs.drop k ++ qs.take k, x ∈ qs := fun x hx => by
  rcases List.mem_append.1 hx with h | h
  · exact List.mem_of_mem_drop h
  · exact List.mem_of_mem_take h
theorem Try.infoP : (Try.prog.info? 61).map (fun i => (i.zero, i.size, i.bytes)) = some (some (.pointer none), 1, 8) := by kernel_rfl
theorem elP : ElT Try.prog 63 61 (.pointer none) := by
  obtain ⟨i0, hi, hz0, hz1, hz2⟩ := info_parts Try.infoP
  exact ⟨Try.underlying63, ⟨i0, 8, hi, hz0, hz1, hz2, by decide⟩, rfl⟩
theorem qreceive {lo A C room : Nat} {w : World} {qs : List (Nat × Int)} {x : Nat × Int} (h : QAt 59 3 encI lo w A C room (x :: qs)) : Calls Try.prog 24 #[.pointer (some ⟨A, 0, none⟩)] w fun e w' => e = .returned (.pointer (some ⟨x.1, 0, none⟩)) ∧ QAt 59 3 encI lo w' A C room qs ∧ Kept (· = C) w w' := by
  obtain ⟨s, r, hc⟩ := h.ch
  refine (qrecvI_some (l := ptrs qs) h.blk hc).mono ?_
  rintro e w' ⟨rfl, rfl⟩
  exact ⟨rfl, h.turn (fun y hy => h.box y (List.mem_cons_of_mem _ hy)) (by have := h.len; simp at this; omega), kept_setChan _ _ _ _ _ _ _ _⟩
theorem qsend {lo A C room : Nat} {w : World} {qs : List (Nat × Int)} {x : Nat × Int} (h : QAt 59 3 encI lo w A C room qs) (hx : lo ≤ x.1 ∧ Blk w x.1 3 #[encI x.2]) (hl : qs.length < room) : Calls Try.prog 23 #[.pointer (some ⟨A, 0, none⟩), .pointer (some ⟨x.1, 0, none⟩)] w fun e w' => e = .returned (.bool true) ∧ QAt 59 3 encI lo w' A C room (qs ++ [x]) ∧ Kept (· = C) w w' := by
  obtain ⟨s, r, hc⟩ := h.ch
  refine (qsendI_room h.blk hc (by simp [ptrs]; omega) (some ⟨x.1, 0, none⟩)).mono ?_
  rw [show (ptrs qs).toArray.push (.pointer (some ⟨x.1, 0, none⟩)) = (ptrs (qs ++ [x])).toArray by simp [ptrs]]
  rintro e w' ⟨rfl, rfl⟩
  refine ⟨rfl, h.turn (fun y hy => ?_) (by simp; omega), kept_setChan _ _ _ _ _ _ _ _⟩
  rcases List.mem_append.1 hy with hy | hy
  · exact h.box y hy
  · obtain rfl : y = x := by simpa using hy
    exact hx
set_option maxRecDepth 100000 in
set_option maxHeartbeats 4000000 in
theorem qlist {lo A C room : Nat} {w : World} {qs : List (Nat × Int)} (h : QAt 59 3 encI lo w A C room qs) : Calls Try.prog 25 #[.pointer (some ⟨A, 0, none⟩)] w fun e w' => ∃ v, e = .returned v ∧ w'.ownsRow w.heap.size 61 1 v qs.length (ptrs qs) ∧ QAt 59 3 encI lo w' A C room qs ∧ Kept (· = C) w w' := by
  have Hold := Lib.hid h.old
  have HQ0 := Lib.hid h
  have hn4 : qs.length ≤ 4096 := Nat.le_trans h.len h.room
  have Hlen := Lib.hid h.len
  clear h
  go_enter Try.func25, Try.ntmps25
  go_wp2_with fail
  refine (qlenI HQ0.out).mono ?_
  rintro e w1 ⟨rfl, rfl⟩
  go_wp2_with fail
  go_loopw [3, 7] (fun v i wr => ∃ k : Nat, k ≤ qs.length ∧ i = .int .i64 k ∧ wr.ownsRow w.heap.size 61 1 v k (ptrs (qs.take k)) ∧ QAt 59 3 encI lo wr A C room (qs.drop k ++ qs.take k) ∧ Kept (· = C) w wr) (fun _ i _ => qs.length - (intOf i).toNat)
  case atStart => exact ⟨0, Nat.zero_le _, rfl, own_nil _ _ _, by simpa using HQ0.out, Kept.refl _ _⟩
  case round =>
    obtain ⟨k, hk, rfl, hv, hQ, hK⟩ := hrel
    obtain ⟨av, cv, rfl⟩ := own_slice hv
    have HK := Lib.hid hK
    clear hK
    by_cases hlt : k < qs.length
    · have e1 : qs.drop k ++ qs.take k = qs[k] :: (qs.drop (k + 1) ++ qs.take k) := by rw [List.drop_eq_getElem_cons hlt]; rfl
      have e2 : (qs.drop (k + 1) ++ qs.take k) ++ [qs[k]] = qs.drop (k + 1) ++ qs.take (k + 1) := by rw [List.append_assoc, ← List.take_succ_eq_append_getElem hlt]
      have e3 := ptrs_take_snoc qs k hlt
      have E2 := Lib.hid e2
      have E3 := Lib.hid e3
      rw [e1] at hQ
      have hb := hQ.box qs[k] (by simp)
      have hl1 : (qs.drop (k + 1) ++ qs.take k).length < room := by have := hQ.len; simp at this ⊢; omega
      have HO1 : Hid (QOld w.heap.size A C (qs.drop (k + 1) ++ qs.take (k + 1))) := Lib.hid (Hold.out.sub (rot_mem qs (k + 1)))
      clear e1 e2 e3
      generalize qs[k] = x at *
      generalize qs.drop (k + 1) ++ qs.take k = q1 at *
      have HQ := Lib.hid hQ
      have HV := Lib.hid hv
      have HBx := Lib.hid hb
      have Hl1 := Lib.hid hl1
      clear hQ hv hb hl1 HQ0
      go_wp2_with fail
      refine (qreceive HQ.out).mono ?_
      rintro e W2 ⟨rfl, hQ2, hk2⟩
      have HV2 := Lib.hid (HQ.out.own hk2 HV.out)
      have HB2 := Lib.hid (show lo ≤ x.1 ∧ Blk W2 x.1 3 #[encI x.2] from ⟨HBx.out.1, HQ.out.far hk2 HBx.out.2⟩)
      have HK2 := Lib.hid (kept_then HK.out hk2)
      have HQ2 := Lib.hid hQ2
      clear hQ2 hk2 HQ HV HBx HK
      go_wp2_with fail
      refine (qsend HQ2.out HB2.out Hl1.out).mono ?_
      rintro e W3 ⟨rfl, hQ3, hk3⟩
      have HV3 := Lib.hid (HQ2.out.own hk3 HV2.out)
      have HK3 := Lib.hid (kept_then HK2.out hk3)
      rw [E2.out] at hQ3
      have HQ3 := Lib.hid hQ3
      clear hQ3 hk3 HQ2 HV2 HB2 HK2
      have HVb := Lib.hid (own_below HV3.out (below_alloc W3 (Obj.cells #[.pointer (some ⟨x.1, 0, none⟩)] 61)))
      have HQb := Lib.hid (HQ3.out.below (below_alloc W3 (Obj.cells #[.pointer (some ⟨x.1, 0, none⟩)] 61)))
      have HKb := Lib.hid (kept_b HK3.out (below_alloc W3 (Obj.cells #[.pointer (some ⟨x.1, 0, none⟩)] 61)))
      go_wp2_with (refine wpl_appendV elP rfl (.tmp 14) (.tmp 16) rfl w.heap.size _ k (ptrs (qs.take k)) rfl HVb.out (some ⟨W3.heap.size, 0, none⟩) 1 1 [.pointer (some ⟨x.1, 0, none⟩)] rfl rfl (fun e => by cases e) (src_one _ _ _) (by intro u hu; rcases List.mem_singleton.1 hu with rfl; rfl) (by omega) (by have := HKb.out.size; omega) ?_; intro v2 w4 hown hgr hv2; have HV4 := Lib.hid hown; have HQ4 := Lib.hid (HQb.out.grown HO1.out hgr (own_ge HVb.out)); have HK4 := Lib.hid (kept_grown HKb.out hgr (own_ge HVb.out)); clear hown hgr hv2; go_frame)
      go_roundw
      case rel => exact ⟨k + 1, by omega, by go_num, by rw [E3.out]; exact HV4.out, HQ4.out, HK4.out⟩
      case measure => simp [intOf]; omega
    · obtain rfl : k = qs.length := by omega
      have HQ := Lib.hid hQ
      have HV := Lib.hid hv
      clear hQ hv
      go_wp2_with fail
      go_ret
      refine ⟨_, rfl, by have := HV.out; rwa [List.take_length] at this, ?_, HK.out⟩
      have := HQ.out
      rwa [List.drop_length, List.take_length, List.nil_append] at this

end Go.Proofs.Ytcdfolphbabaoaa
