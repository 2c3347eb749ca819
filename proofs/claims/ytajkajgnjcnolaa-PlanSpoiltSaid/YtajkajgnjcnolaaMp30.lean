import Derived.Test.YtajkajgnjcnolaaMp29
import Derived.Deep.LoopGhost
namespace Go.Proofs.Ytajkajgnjcnolaa
open Go.RowKit Go.Maps
set_option linter.unusedVariables false
set_option linter.unnecessarySimpa false
set_option linter.unusedSimpArgs false
theorem ddown8 {lo D : Nat} {w : World} {vz : Value} {d : DvR} {l : List ZcR} (b : Bool) (hb : d.down = b) (h : DvAt lo w D vz d l) : Calls Try.prog 22 #[.pointer (some ⟨D, 0, none⟩)] w fun e w' => e = .returned (.bool b) ∧ Below w.heap.size w w' := by
  subst hb
  refine (ddown h).mono ?_
  rintro e w' ⟨rfl, rfl⟩
  exact ⟨rfl, Below.refl _ _⟩
theorem dcount8 {lo D : Nat} {w : World} {vz : Value} {d : DvR} {l : List ZcR} (h : DvAt lo w D vz d l) : Calls Try.prog 21 #[.pointer (some ⟨D, 0, none⟩)] w fun e w' => e = .returned (.int .i64 d.count) ∧ Below w.heap.size w w' := by
  refine (dcount h).mono ?_
  rintro e w' ⟨rfl, rfl⟩
  exact ⟨rfl, Below.refl _ _⟩
theorem dzones8 {lo D : Nat} {w : World} {vz : Value} {d : DvR} {l : List ZcR} {n : Nat} (hn : l.length = n) (h : DvAt lo w D vz d l) : Calls Try.prog 41 #[.pointer (some ⟨D, 0, none⟩)] w fun e w' => e = .returned (.int .i64 (n : Nat)) ∧ Below w.heap.size w w' := by
  subst hn
  refine (dzones h).mono ?_
  rintro e w' ⟨rfl, rfl⟩
  exact ⟨rfl, Below.refl _ _⟩
theorem Try.zeroEv (w : World) : (zeroValue 37).run Try.prog w = .ok (.agg (evA ev0)) w := by kernel_rfl
section
variable {lo X D mb n : Nat} {w : World} {S : St8} {vz ve : Value} {l : List ZcR} {f : Int × Int → Option (List Nat × Int)}
theorem PdAt.past (h : PdAt lo w X S D vz ve l mb n f) {e : EvR} {cs : List EvR} (hc : S.R.cs = e :: cs) : PdAt lo (w.setCell ⟨X, 2, none⟩ (.int .i64 ((S.R.h.length : Nat) + 1))) X ⟨⟨S.R.d, S.R.zs, cs, S.R.h ++ [e]⟩, S.M⟩ D vz ve l mb n f ∧ Kept (· = X) w (w.setCell ⟨X, 2, none⟩ (.int .i64 ((S.R.h.length : Nat) + 1))) := by
  have k : Kept (· = X) w (w.setCell ⟨X, 2, none⟩ (.int .i64 ((S.R.h.length : Nat) + 1))) := (Kept.refl (· = X) w).setCell (p := ⟨X, 2, none⟩) rfl _
  have hb := h.blk.set 2 (.int .i64 ((S.R.h.length : Nat) + 1))
  have hp : (pdA D ve S.R.h.length mb).setIfInBounds 2 (.int .i64 ((S.R.h.length : Nat) + 1)) = pdA D ve (S.R.h ++ [e]).length mb := by simp [pdA]
  rw [hp] at hb
  refine ⟨⟨hb, h.dv.kept k (fun i hi e => h.dvX (e ▸ hi)), h.zs, ?_, h.mp.kept k (fun e => h.xM e.symm), h.mkf, h.m64, fun z o => ?_, h.len, ?_, h.leX, h.leM⟩, k⟩
  · have h1 := h.ev.kept k (fun g hg => h.eX hg)
    rw [hc] at h1
    show RowE _ lo _ ve ((S.R.h ++ [e]) ++ cs)
    rw [List.append_assoc]
    exact h1
  · have h1 := h.mn z o
    refine ⟨h1.1, ?_⟩
    show (S.M z o).2 ≤ ((S.R.h ++ [e]).length : Int)
    rw [List.length_append, List.length_singleton]
    omega
  · have h1 := h.so
    rw [hc] at h1
    exact (List.pairwise_cons.1 h1).2
theorem PdAt.next (h : PdAt lo w X S D vz ve l mb n f) {e : EvR} {cs : List EvR} (hc : S.R.cs = e :: cs) : ∃ g c, ve = .slice (some ⟨g, 0, none⟩) (S.R.h ++ S.R.cs).length c ∧ (S.R.h ++ S.R.cs).length ≤ c ∧ c ≤ 9223372036854775807 ∧ w.rangeAt g (0 + S.R.h.length * 68) (evL e) ∧ ve.ownBlock = some g := by
  obtain ⟨a, c, rfl, h1, h2⟩ := h.slice
  have h0 : 0 < (S.R.h ++ S.R.cs).length := by rw [hc]; simp; omega
  obtain ⟨g, rfl, _, _⟩ := ownK_form h.ev.own h0
  obtain ⟨g', off, c', hv, hr, _⟩ := h.ev.rd.at_ (i := S.R.h.length) (e := e) (by rw [hc]; simp)
  obtain ⟨⟨rfl, rfl⟩, -⟩ : (g = g' ∧ 0 = off) ∧ c = c' := by simpa using hv
  exact ⟨g, c, rfl, h1, h2, hr, rfl⟩
end
theorem pdAt.below {lo X : Nat} {w w' : World} {S : St8} {F : Nat → Prop} (h : pdAt lo w X S F) (hb : Below w.heap.size w w') : pdAt lo w' X S F := by
  obtain ⟨D, vz, ve, l, mb, n, f, h, rfl⟩ := h
  exact ⟨D, vz, ve, l, mb, n, f, h.below hb, rfl⟩
theorem dueM_down {d : DvR} {zs : List ZsR} {cs : List EvR} {M : Mk} (hd : d.down = true) : dueM d zs cs M = M := by
  cases cs with
  | nil => rfl
  | cons e cs => unfold dueM; rw [if_neg (by rw [hd]; simp)]
theorem dueM_late {d : DvR} {zs : List ZsR} {e : EvR} {cs : List EvR} {M : Mk} (hd : ¬ e.at_ ≤ d.count) : dueM d zs (e :: cs) M = M := by
  unfold dueM; rw [if_neg (fun h => hd h.2)]
theorem PdTo.stepX {lo X D mb : Nat} {w w1 w2 w3 : World} {S1 S3 : St8} {F : Nat → Prop} {vz ve : Value} {l : List ZcR} (h : PdTo lo w X F S1 w1) (k : Kept (· = X) w1 w2) (h3 : PdTo lo w2 X (PdF X D vz ve l mb) S3 w3) (hF : ∀ i, PdF X D vz ve l mb i → F i ∨ w.heap.size ≤ i) : PdTo lo w X F S3 w3 := by
  obtain ⟨F1, p1, k1, i1⟩ := h
  obtain ⟨F3, p3, k3, i3⟩ := h3
  have hX : F X ∨ w.heap.size ≤ X := hF X (.inl rfl)
  refine ⟨F3, p3, (k1.andThen k (U := F) (fun _ _ h => h) (fun i hi e => ?_)).andThen k3 (fun _ _ h => h) (fun i hi hF9 => ?_), fun i hi => ?_⟩
  · rcases hX with h9 | h9
    · exact e ▸ h9
    · omega
  · rcases hF i hF9 with h9 | h9
    · exact h9
    · omega
  · rcases i3 i hi with h9 | h9
    · exact hF i h9
    · exact .inr (Nat.le_trans (Nat.le_trans k1.size k.size) h9)
set_option maxRecDepth 100000 in
set_option maxHeartbeats 2000000 in
theorem ppass {lo X : Nat} {w : World} {S : St8} {F : Nat → Prop} (h : pdAt lo w X S F) (hn : S.R.h.length + S.R.cs.length ≤ 40000) :
    Calls Try.prog 64 #[.pointer (some ⟨X, 0, none⟩)] w fun en w' => en = .returned (.tuple #[]) ∧ PdTo lo w X F (⟨dueF S.R.d S.R.zs S.R.cs S.R.h, dueM S.R.d S.R.zs S.R.cs S.M⟩ : St8) w' := by
  have H0 := Lib.hid h
  have Hn := Lib.hid hn
  clear h hn
  go_enter Try.func64, Try.ntmps64
  go_wp2_with fail
  go_loopg [2] S.R.cs.length (fun k p wr => ∃ S1 : St8, k = S1.R.cs.length ∧ PdTo lo w X F S1 wr ∧ S1.R.h.length + S1.R.cs.length ≤ 40000 ∧ dueF S1.R.d S1.R.zs S1.R.cs S1.R.h = dueF S.R.d S.R.zs S.R.cs S.R.h ∧ dueM S1.R.d S1.R.zs S1.R.cs S1.M = dueM S.R.d S.R.zs S.R.cs S.M)
  · exact ⟨S, rfl, PdTo.same H0.out (Below.refl _ _), Hn.out, rfl, rfl⟩
  · obtain ⟨S1, hk, hto, hn1, hR, hM⟩ := hrel
    have Hto := Lib.hid hto
    have Hn1 := Lib.hid hn1
    have HR := Lib.hid hR
    have HM := Lib.hid hM
    obtain ⟨F1, ⟨D, vz, ve, l, mb, n, f, hp1, rfl⟩, hk1, hi1⟩ := hto
    have HP1 := Lib.hid hp1
    have Hi1 := Lib.hid hi1
    clear hk1 hi1 hn1 hR hM
    obtain ⟨a1, c1, hve, hc1, hc2⟩ := hp1.slice
    cases hcs : S1.R.cs with
    | nil =>
      subst hve
      have HX1 := Lib.hid hp1.blk
      have Hcs := Lib.hid hcs
      have dl : decide (((S1.R.h.length : Nat) : Int) < (((S1.R.h ++ S1.R.cs).length : Nat) : Int)) = false := by rw [hcs]; simp
      clear hp1 hcs
      go_upto_region 0 with fail
      refine wp_region_held (S := fun w' => Kept (fun _ => False) wr w') (by kernel_rfl) ?_
      change wpAnyH _ _ _ _ _ _ _ _ (World.drew _)
      have hS : Kept (fun _ => False) wr wr.drew := (Kept.refl _ _).drew
      have hB0 : Below wr.heap.size wr wr.drew := (Below.refl _ _).drew
      refine takeH hS (i := 0) (d := 3) (v := .pointer (some ⟨X, 0, none⟩)) rfl rfl (by kernel_rfl) (by kernel_rfl) (by kernel_rfl) (fun _ _ _ h => h) (Or.inl ⟨by kernel_rfl, fun w' hw' => by kernel_rfl⟩) ?_
      refine takeH hS (i := 1) (d := 4) (v := .pointer (some ⟨X, 0, none⟩)) rfl rfl (by kernel_rfl) (by kernel_rfl) (by kernel_rfl) (fun _ _ _ h => h) (Or.inl ⟨by kernel_rfl, fun w' hw' => by kernel_rfl⟩) ?_
      refine takeH hS (i := 2) (d := 5) (v := .pointer (some ⟨X, 2, none⟩)) rfl rfl (by kernel_rfl) (by kernel_rfl) (by kernel_rfl) (fun _ _ _ h => h) (Or.inl ⟨by kernel_rfl, fun w' hw' => by kernel_rfl⟩) ?_
      refine takeH hS (i := 3) (d := 6) (v := .int .i64 ((S1.R.h.length : Nat))) rfl rfl (by kernel_rfl) (by kernel_rfl) (by kernel_rfl) (fun _ _ _ h => h) (Or.inl ⟨by kernel_rfl, fun w' hw' => by exact exec_cell _ rfl ⟨X, 2, none⟩ rfl _ Try.underlying3 (((HX1.out.kept hw' (fun h => h)).cell 2).trans (rfl))⟩) ?_
      try go_frame
      refine takeH hS (i := 4) (d := 7) (v := .pointer (some ⟨X, 0, none⟩)) rfl rfl (by kernel_rfl) (by kernel_rfl) (by kernel_rfl) (fun _ _ _ h => h) (Or.inl ⟨by kernel_rfl, fun w' hw' => by kernel_rfl⟩) ?_
      refine takeH hS (i := 5) (d := 8) (v := .pointer (some ⟨X, 0, none⟩)) rfl rfl (by kernel_rfl) (by kernel_rfl) (by kernel_rfl) (fun _ _ _ h => h) (Or.inl ⟨by kernel_rfl, fun w' hw' => by kernel_rfl⟩) ?_
      refine takeH hS (i := 6) (d := 9) (v := .pointer (some ⟨X, 1, none⟩)) rfl rfl (by kernel_rfl) (by kernel_rfl) (by kernel_rfl) (fun _ _ _ h => h) (Or.inl ⟨by kernel_rfl, fun w' hw' => by kernel_rfl⟩) ?_
      refine takeH hS (i := 7) (d := 10) (v := .slice (a1) ((S1.R.h ++ S1.R.cs).length) (c1)) rfl rfl (by kernel_rfl) (by kernel_rfl) (by kernel_rfl) (fun _ _ _ h => h) (Or.inl ⟨by kernel_rfl, fun w' hw' => by exact exec_cellv _ rfl ⟨X, 1, none⟩ rfl (.slice (a1) ((S1.R.h ++ S1.R.cs).length) (c1)) Try.underlying88 rfl (((HX1.out.kept hw' (fun h => h)).cell 1).trans (rfl))⟩) ?_
      try go_frame
      refine takeH hS (i := 8) (d := 11) (v := .int .i64 (((S1.R.h ++ S1.R.cs).length : Nat))) rfl rfl (by kernel_rfl) (by kernel_rfl) (by kernel_rfl) (fun _ _ _ h => h) (Or.inl ⟨by kernel_rfl, fun w' hw' => by exact exec_len _ rfl Try.underlying88 _ _ _ rfl⟩) ?_
      refine takeH hS (i := 9) (d := 12) (v := .bool false) rfl rfl (by kernel_rfl) (by kernel_rfl) (by kernel_rfl) (fun _ _ _ h => h) (Or.inl ⟨by kernel_rfl, fun w' hw' => by exact exec_lss _ _ rfl ((S1.R.h.length : Nat)) (((S1.R.h ++ S1.R.cs).length : Nat)) rfl rfl false (dl) rfl⟩) ?_
      refine takeH hS (i := 10) (d := 13) (v := .bool false) rfl rfl (by kernel_rfl) (by kernel_rfl) (by kernel_rfl) (fun _ _ _ h => h) (Or.inl ⟨by kernel_rfl, fun w' hw' => by kernel_rfl⟩) ?_
      refine takeH hS (i := 11) (d := 14) (v := undef) rfl rfl (by kernel_rfl) (by kernel_rfl) (by kernel_rfl) (fun _ _ _ h => h) (Or.inr ⟨by kernel_rfl, rfl⟩) ?_
      try go_frame
      refine takeH hS (i := 12) (d := 15) (v := undef) rfl rfl (by kernel_rfl) (by kernel_rfl) (by kernel_rfl) (fun _ _ _ h => h) (Or.inr ⟨by kernel_rfl, rfl⟩) ?_
      refine takeH hS (i := 13) (d := 16) (v := undef) rfl rfl (by kernel_rfl) (by kernel_rfl) (by kernel_rfl) (fun _ _ _ h => h) (Or.inr ⟨by kernel_rfl, rfl⟩) ?_
      refine takeH hS (i := 14) (d := 17) (v := undef) rfl rfl (by kernel_rfl) (by kernel_rfl) (by kernel_rfl) (fun _ _ _ h => h) (Or.inr ⟨by kernel_rfl, rfl⟩) ?_
      refine takeH hS (i := 15) (d := 18) (v := undef) rfl rfl (by kernel_rfl) (by kernel_rfl) (by kernel_rfl) (fun _ _ _ h => h) (Or.inr ⟨by kernel_rfl, rfl⟩) ?_
      try go_frame
      refine takeH hS (i := 16) (d := 19) (v := undef) rfl rfl (by kernel_rfl) (by kernel_rfl) (by kernel_rfl) (fun _ _ _ h => h) (Or.inr ⟨by kernel_rfl, rfl⟩) ?_
      refine takeH hS (i := 17) (d := 20) (v := .bool false) rfl rfl (by kernel_rfl) (by kernel_rfl) (by kernel_rfl) (fun _ _ _ h => h) (Or.inl ⟨by kernel_rfl, fun w' hw' => by kernel_rfl⟩) ?_
      refine takeH hS (i := 18) (d := 21) (v := .bool false) rfl rfl (by kernel_rfl) (by kernel_rfl) (by kernel_rfl) (fun _ _ _ h => h) (Or.inl ⟨by kernel_rfl, fun w' hw' => by kernel_rfl⟩) ?_
      refine takeH hS (i := 19) (d := 22) (v := undef) rfl rfl (by kernel_rfl) (by kernel_rfl) (by kernel_rfl) (fun _ _ _ h => h) (Or.inr ⟨by kernel_rfl, rfl⟩) ?_
      try go_frame
      refine takeH hS (i := 20) (d := 23) (v := undef) rfl rfl (by kernel_rfl) (by kernel_rfl) (by kernel_rfl) (fun _ _ _ h => h) (Or.inr ⟨by kernel_rfl, rfl⟩) ?_
      refine takeH hS (i := 21) (d := 24) (v := undef) rfl rfl (by kernel_rfl) (by kernel_rfl) (by kernel_rfl) (fun _ _ _ h => h) (Or.inr ⟨by kernel_rfl, rfl⟩) ?_
      refine takeH hS (i := 22) (d := 25) (v := undef) rfl rfl (by kernel_rfl) (by kernel_rfl) (by kernel_rfl) (fun _ _ _ h => h) (Or.inr ⟨by kernel_rfl, rfl⟩) ?_
      refine takeH hS (i := 23) (d := 26) (v := undef) rfl rfl (by kernel_rfl) (by kernel_rfl) (by kernel_rfl) (fun _ _ _ h => h) (Or.inr ⟨by kernel_rfl, rfl⟩) ?_
      try go_frame
      refine takeH hS (i := 24) (d := 27) (v := undef) rfl rfl (by kernel_rfl) (by kernel_rfl) (by kernel_rfl) (fun _ _ _ h => h) (Or.inr ⟨by kernel_rfl, rfl⟩) ?_
      refine takeH hS (i := 25) (d := 28) (v := undef) rfl rfl (by kernel_rfl) (by kernel_rfl) (by kernel_rfl) (fun _ _ _ h => h) (Or.inr ⟨by kernel_rfl, rfl⟩) ?_
      refine takeH hS (i := 26) (d := 29) (v := undef) rfl rfl (by kernel_rfl) (by kernel_rfl) (by kernel_rfl) (fun _ _ _ h => h) (Or.inr ⟨by kernel_rfl, rfl⟩) ?_
      refine takeH hS (i := 27) (d := 30) (v := undef) rfl rfl (by kernel_rfl) (by kernel_rfl) (by kernel_rfl) (fun _ _ _ h => h) (Or.inr ⟨by kernel_rfl, rfl⟩) ?_
      try go_frame
      refine takeH hS (i := 28) (d := 31) (v := undef) rfl rfl (by kernel_rfl) (by kernel_rfl) (by kernel_rfl) (fun _ _ _ h => h) (Or.inr ⟨by kernel_rfl, rfl⟩) ?_
      refine takeH hS (i := 29) (d := 32) (v := undef) rfl rfl (by kernel_rfl) (by kernel_rfl) (by kernel_rfl) (fun _ _ _ h => h) (Or.inr ⟨by kernel_rfl, rfl⟩) ?_
      refine takeH hS (i := 30) (d := 33) (v := undef) rfl rfl (by kernel_rfl) (by kernel_rfl) (by kernel_rfl) (fun _ _ _ h => h) (Or.inr ⟨by kernel_rfl, rfl⟩) ?_
      refine takeH hS (i := 31) (d := 34) (v := undef) rfl rfl (by kernel_rfl) (by kernel_rfl) (by kernel_rfl) (fun _ _ _ h => h) (Or.inr ⟨by kernel_rfl, rfl⟩) ?_
      try go_frame
      refine takeH hS (i := 32) (d := 35) (v := undef) rfl rfl (by kernel_rfl) (by kernel_rfl) (by kernel_rfl) (fun _ _ _ h => h) (Or.inr ⟨by kernel_rfl, rfl⟩) ?_
      refine takeH hS (i := 33) (d := 36) (v := undef) rfl rfl (by kernel_rfl) (by kernel_rfl) (by kernel_rfl) (fun _ _ _ h => h) (Or.inr ⟨by kernel_rfl, rfl⟩) ?_
      refine takeH hS (i := 34) (d := 37) (v := undef) rfl rfl (by kernel_rfl) (by kernel_rfl) (by kernel_rfl) (fun _ _ _ h => h) (Or.inr ⟨by kernel_rfl, rfl⟩) ?_
      refine takeH hS (i := 35) (d := 38) (v := undef) rfl rfl (by kernel_rfl) (by kernel_rfl) (by kernel_rfl) (fun _ _ _ h => h) (Or.inr ⟨by kernel_rfl, rfl⟩) ?_
      try go_frame
      refine takeH hS (i := 36) (d := 39) (v := .bool false) rfl rfl (by kernel_rfl) (by kernel_rfl) (by kernel_rfl) (fun _ _ _ h => h) (Or.inl ⟨by kernel_rfl, fun w' hw' => by kernel_rfl⟩) ?_
      refine wpAnyH_done (by kernel_rfl) ?_ _
      try go_frame
      have HF := Lib.hid (Hto.out.below hB0)
      clear hS hB0 HX1 HP1 Hto
      generalize wr.drew = w9 at *
      go_wp2_with fail
      first | go_end0 | refine bodyPost_ret (results_none rfl _ _ _) rfl ?_
      exact ⟨rfl, by rw [← HR.out, ← HM.out, Hcs.out]; simp only [dueF, dueM]; rw [← Hcs.out]; exact HF.out⟩
    | cons e cs1 =>
      obtain ⟨g, c9, hv9, _, _, hr9, hg9⟩ := hp1.next hcs
      obtain ⟨rfl, -, rfl⟩ : a1 = some ⟨g, 0, none⟩ ∧ True ∧ c1 = c9 := by rw [hve] at hv9; simpa using hv9
      subst hve
      have HX1 := Lib.hid hp1.blk
      have He := Lib.hid (hp1.eok e (by rw [hcs]; simp))
      have hcs1 := hcs
      have dl : decide (((S1.R.h.length : Nat) : Int) < (((S1.R.h ++ S1.R.cs).length : Nat) : Int)) = true := decide_eq_true (by rw [hcs]; simp; omega)
      have hlt : S1.R.h.length < (S1.R.h ++ S1.R.cs).length := by rw [hcs]; simp
      have Hrx : Hid (∀ W, Below wr.heap.size wr W → W.rangeAt g (0 + S1.R.h.length * 68) (evL e)) := Lib.hid (fun W hb => by
        obtain ⟨g', c', hv2, _, _, hr2, _⟩ := (hp1.below hb).next hcs
        obtain ⟨rfl, -⟩ : g = g' ∧ c1 = c' := by simpa using hv2
        exact hr2)
      have Hcx : Hid (∀ w', Below wr.heap.size wr w' → w'.cell? ⟨g, 0 + S1.R.h.length * 68, none⟩ = some (.int .i64 e.at_)) := Lib.hid (fun w' hw' => Hrx.out w' hw' 0 _ (evL_at0 e))
      clear hp1 hr9 hg9 hv9 hcs
      cases hdn : S1.R.d.down with
      | true =>
        have Hdn := Lib.hid hdn
        clear hdn
        have Hcs1 := Lib.hid hcs1
        clear hcs1
        go_upto_region 0 with fail
        refine wp_region_held (S := fun w' => Kept (fun _ => False) wr w') (by kernel_rfl) ?_
        change wpAnyH _ _ _ _ _ _ _ _ (World.drew _)
        have hS : Kept (fun _ => False) wr wr.drew := (Kept.refl _ _).drew
        have hB0 : Below wr.heap.size wr wr.drew := (Below.refl _ _).drew
        refine takeH hS (i := 0) (d := 3) (v := .pointer (some ⟨X, 0, none⟩)) rfl rfl (by kernel_rfl) (by kernel_rfl) (by kernel_rfl) (fun _ _ _ h => h) (Or.inl ⟨by kernel_rfl, fun w' hw' => by kernel_rfl⟩) ?_
        refine takeH hS (i := 1) (d := 4) (v := .pointer (some ⟨X, 0, none⟩)) rfl rfl (by kernel_rfl) (by kernel_rfl) (by kernel_rfl) (fun _ _ _ h => h) (Or.inl ⟨by kernel_rfl, fun w' hw' => by kernel_rfl⟩) ?_
        refine takeH hS (i := 2) (d := 5) (v := .pointer (some ⟨X, 2, none⟩)) rfl rfl (by kernel_rfl) (by kernel_rfl) (by kernel_rfl) (fun _ _ _ h => h) (Or.inl ⟨by kernel_rfl, fun w' hw' => by kernel_rfl⟩) ?_
        refine takeH hS (i := 3) (d := 6) (v := .int .i64 ((S1.R.h.length : Nat))) rfl rfl (by kernel_rfl) (by kernel_rfl) (by kernel_rfl) (fun _ _ _ h => h) (Or.inl ⟨by kernel_rfl, fun w' hw' => by exact exec_cell _ rfl ⟨X, 2, none⟩ rfl _ Try.underlying3 (((HX1.out.kept hw' (fun h => h)).cell 2).trans (rfl))⟩) ?_
        try go_frame
        refine takeH hS (i := 4) (d := 7) (v := .pointer (some ⟨X, 0, none⟩)) rfl rfl (by kernel_rfl) (by kernel_rfl) (by kernel_rfl) (fun _ _ _ h => h) (Or.inl ⟨by kernel_rfl, fun w' hw' => by kernel_rfl⟩) ?_
        refine takeH hS (i := 5) (d := 8) (v := .pointer (some ⟨X, 0, none⟩)) rfl rfl (by kernel_rfl) (by kernel_rfl) (by kernel_rfl) (fun _ _ _ h => h) (Or.inl ⟨by kernel_rfl, fun w' hw' => by kernel_rfl⟩) ?_
        refine takeH hS (i := 6) (d := 9) (v := .pointer (some ⟨X, 1, none⟩)) rfl rfl (by kernel_rfl) (by kernel_rfl) (by kernel_rfl) (fun _ _ _ h => h) (Or.inl ⟨by kernel_rfl, fun w' hw' => by kernel_rfl⟩) ?_
        refine takeH hS (i := 7) (d := 10) (v := .slice (some ⟨g, 0, none⟩) ((S1.R.h ++ S1.R.cs).length) (c1)) rfl rfl (by kernel_rfl) (by kernel_rfl) (by kernel_rfl) (fun _ _ _ h => h) (Or.inl ⟨by kernel_rfl, fun w' hw' => by exact exec_cellv _ rfl ⟨X, 1, none⟩ rfl (.slice (some ⟨g, 0, none⟩) ((S1.R.h ++ S1.R.cs).length) (c1)) Try.underlying88 rfl (((HX1.out.kept hw' (fun h => h)).cell 1).trans (rfl))⟩) ?_
        try go_frame
        refine takeH hS (i := 8) (d := 11) (v := .int .i64 (((S1.R.h ++ S1.R.cs).length : Nat))) rfl rfl (by kernel_rfl) (by kernel_rfl) (by kernel_rfl) (fun _ _ _ h => h) (Or.inl ⟨by kernel_rfl, fun w' hw' => by exact exec_len _ rfl Try.underlying88 _ _ _ rfl⟩) ?_
        refine takeH hS (i := 9) (d := 12) (v := .bool true) rfl rfl (by kernel_rfl) (by kernel_rfl) (by kernel_rfl) (fun _ _ _ h => h) (Or.inl ⟨by kernel_rfl, fun w' hw' => by exact exec_lss _ _ rfl ((S1.R.h.length : Nat)) (((S1.R.h ++ S1.R.cs).length : Nat)) rfl rfl true (dl) rfl⟩) ?_
        refine takeH hS (i := 10) (d := 13) (v := .bool true) rfl rfl (by kernel_rfl) (by kernel_rfl) (by kernel_rfl) (fun _ _ _ h => h) (Or.inl ⟨by kernel_rfl, fun w' hw' => by kernel_rfl⟩) ?_
        refine takeH hS (i := 11) (d := 14) (v := .pointer (some ⟨X, 0, none⟩)) rfl rfl (by kernel_rfl) (by kernel_rfl) (by kernel_rfl) (fun _ _ _ h => h) (Or.inl ⟨by kernel_rfl, fun w' hw' => by kernel_rfl⟩) ?_
        try go_frame
        refine takeH hS (i := 12) (d := 15) (v := .pointer (some ⟨X, 0, none⟩)) rfl rfl (by kernel_rfl) (by kernel_rfl) (by kernel_rfl) (fun _ _ _ h => h) (Or.inl ⟨by kernel_rfl, fun w' hw' => by kernel_rfl⟩) ?_
        refine takeH hS (i := 13) (d := 16) (v := .pointer (some ⟨X, 0, none⟩)) rfl rfl (by kernel_rfl) (by kernel_rfl) (by kernel_rfl) (fun _ _ _ h => h) (Or.inl ⟨by kernel_rfl, fun w' hw' => by kernel_rfl⟩) ?_
        refine takeH hS (i := 14) (d := 17) (v := .pointer (some ⟨D, 0, none⟩)) rfl rfl (by kernel_rfl) (by kernel_rfl) (by kernel_rfl) (fun _ _ _ h => h) (Or.inl ⟨by kernel_rfl, fun w' hw' => by exact exec_cellv _ rfl ⟨X, 0, none⟩ rfl (.pointer (some ⟨D, 0, none⟩)) Try.underlying45 rfl (((HX1.out.kept hw' (fun h => h)).cell 0).trans (rfl))⟩) ?_
        try go_frame
        refine nextH (i := 15) rfl (by kernel_rfl) (by kernel_rfl) (fun K' hK => ?_)
        go_wp2_with fail
        refine (ddown8 true Hdn.out (HP1.out.dv.below hB0)).mono ?_
        rintro en wrc1 ⟨rfl, hb⟩
        have hS1 : Kept (fun _ => False) wr wrc1 := kept_next hS hb
        have hB1 : Below wr.heap.size wr wrc1 := bel_next hB0 hb
        refine hK.out _ _ ⟨hS1, ?_⟩
        clear hK K' hS hb hB0
        refine takeH hS1 (i := 16) (d := 19) (v := .bool false) rfl rfl (by kernel_rfl) (by kernel_rfl) (by kernel_rfl) (fun _ _ _ h => h) (Or.inl ⟨by kernel_rfl, fun w' hw' => by kernel_rfl⟩) ?_
        refine takeH hS1 (i := 17) (d := 20) (v := .bool false) rfl rfl (by kernel_rfl) (by kernel_rfl) (by kernel_rfl) (fun _ _ _ h => h) (Or.inl ⟨by kernel_rfl, fun w' hw' => by kernel_rfl⟩) ?_
        refine takeH hS1 (i := 18) (d := 21) (v := .bool false) rfl rfl (by kernel_rfl) (by kernel_rfl) (by kernel_rfl) (fun _ _ _ h => h) (Or.inl ⟨by kernel_rfl, fun w' hw' => by kernel_rfl⟩) ?_
        refine takeH hS1 (i := 19) (d := 22) (v := undef) rfl rfl (by kernel_rfl) (by kernel_rfl) (by kernel_rfl) (fun _ _ _ h => h) (Or.inr ⟨by kernel_rfl, rfl⟩) ?_
        try go_frame
        refine takeH hS1 (i := 20) (d := 23) (v := undef) rfl rfl (by kernel_rfl) (by kernel_rfl) (by kernel_rfl) (fun _ _ _ h => h) (Or.inr ⟨by kernel_rfl, rfl⟩) ?_
        refine takeH hS1 (i := 21) (d := 24) (v := undef) rfl rfl (by kernel_rfl) (by kernel_rfl) (by kernel_rfl) (fun _ _ _ h => h) (Or.inr ⟨by kernel_rfl, rfl⟩) ?_
        refine takeH hS1 (i := 22) (d := 25) (v := undef) rfl rfl (by kernel_rfl) (by kernel_rfl) (by kernel_rfl) (fun _ _ _ h => h) (Or.inr ⟨by kernel_rfl, rfl⟩) ?_
        refine takeH hS1 (i := 23) (d := 26) (v := undef) rfl rfl (by kernel_rfl) (by kernel_rfl) (by kernel_rfl) (fun _ _ _ h => h) (Or.inr ⟨by kernel_rfl, rfl⟩) ?_
        try go_frame
        refine takeH hS1 (i := 24) (d := 27) (v := undef) rfl rfl (by kernel_rfl) (by kernel_rfl) (by kernel_rfl) (fun _ _ _ h => h) (Or.inr ⟨by kernel_rfl, rfl⟩) ?_
        refine takeH hS1 (i := 25) (d := 28) (v := undef) rfl rfl (by kernel_rfl) (by kernel_rfl) (by kernel_rfl) (fun _ _ _ h => h) (Or.inr ⟨by kernel_rfl, rfl⟩) ?_
        refine takeH hS1 (i := 26) (d := 29) (v := undef) rfl rfl (by kernel_rfl) (by kernel_rfl) (by kernel_rfl) (fun _ _ _ h => h) (Or.inr ⟨by kernel_rfl, rfl⟩) ?_
        refine takeH hS1 (i := 27) (d := 30) (v := undef) rfl rfl (by kernel_rfl) (by kernel_rfl) (by kernel_rfl) (fun _ _ _ h => h) (Or.inr ⟨by kernel_rfl, rfl⟩) ?_
        try go_frame
        refine takeH hS1 (i := 28) (d := 31) (v := undef) rfl rfl (by kernel_rfl) (by kernel_rfl) (by kernel_rfl) (fun _ _ _ h => h) (Or.inr ⟨by kernel_rfl, rfl⟩) ?_
        refine takeH hS1 (i := 29) (d := 32) (v := undef) rfl rfl (by kernel_rfl) (by kernel_rfl) (by kernel_rfl) (fun _ _ _ h => h) (Or.inr ⟨by kernel_rfl, rfl⟩) ?_
        refine takeH hS1 (i := 30) (d := 33) (v := undef) rfl rfl (by kernel_rfl) (by kernel_rfl) (by kernel_rfl) (fun _ _ _ h => h) (Or.inr ⟨by kernel_rfl, rfl⟩) ?_
        refine takeH hS1 (i := 31) (d := 34) (v := undef) rfl rfl (by kernel_rfl) (by kernel_rfl) (by kernel_rfl) (fun _ _ _ h => h) (Or.inr ⟨by kernel_rfl, rfl⟩) ?_
        try go_frame
        refine takeH hS1 (i := 32) (d := 35) (v := undef) rfl rfl (by kernel_rfl) (by kernel_rfl) (by kernel_rfl) (fun _ _ _ h => h) (Or.inr ⟨by kernel_rfl, rfl⟩) ?_
        refine takeH hS1 (i := 33) (d := 36) (v := undef) rfl rfl (by kernel_rfl) (by kernel_rfl) (by kernel_rfl) (fun _ _ _ h => h) (Or.inr ⟨by kernel_rfl, rfl⟩) ?_
        refine takeH hS1 (i := 34) (d := 37) (v := undef) rfl rfl (by kernel_rfl) (by kernel_rfl) (by kernel_rfl) (fun _ _ _ h => h) (Or.inr ⟨by kernel_rfl, rfl⟩) ?_
        refine takeH hS1 (i := 35) (d := 38) (v := undef) rfl rfl (by kernel_rfl) (by kernel_rfl) (by kernel_rfl) (fun _ _ _ h => h) (Or.inr ⟨by kernel_rfl, rfl⟩) ?_
        try go_frame
        refine takeH hS1 (i := 36) (d := 39) (v := .bool false) rfl rfl (by kernel_rfl) (by kernel_rfl) (by kernel_rfl) (fun _ _ _ h => h) (Or.inl ⟨by kernel_rfl, fun w' hw' => by kernel_rfl⟩) ?_
        refine wpAnyH_done (by kernel_rfl) ?_ _
        try go_frame
        have HF := Lib.hid (Hto.out.below hB1)
        clear hS1 hB1 HX1 HP1 Hto
        generalize wrc1 = w9 at *
        go_wp2_with fail
        first | go_end0 | refine bodyPost_ret (results_none rfl _ _ _) rfl ?_
        exact ⟨rfl, by rw [← HR.out, ← HM.out, dueF_down Hdn.out, dueM_down Hdn.out]; exact HF.out⟩
      | false =>
        have Hdn := Lib.hid hdn
        clear hdn
        by_cases hgo : e.at_ ≤ S1.R.d.count
        · have dg : decide (e.at_ ≤ S1.R.d.count) = true := decide_eq_true hgo
          have Hgo := Lib.hid hgo
          clear hgo
          go_upto_region 0 with fail
          refine wp_region_held (S := fun w' => Kept (fun _ => False) wr w') (by kernel_rfl) ?_
          change wpAnyH _ _ _ _ _ _ _ _ (World.drew _)
          have hS : Kept (fun _ => False) wr wr.drew := (Kept.refl _ _).drew
          have hB0 : Below wr.heap.size wr wr.drew := (Below.refl _ _).drew
          refine takeH hS (i := 0) (d := 3) (v := .pointer (some ⟨X, 0, none⟩)) rfl rfl (by kernel_rfl) (by kernel_rfl) (by kernel_rfl) (fun _ _ _ h => h) (Or.inl ⟨by kernel_rfl, fun w' hw' => by kernel_rfl⟩) ?_
          refine takeH hS (i := 1) (d := 4) (v := .pointer (some ⟨X, 0, none⟩)) rfl rfl (by kernel_rfl) (by kernel_rfl) (by kernel_rfl) (fun _ _ _ h => h) (Or.inl ⟨by kernel_rfl, fun w' hw' => by kernel_rfl⟩) ?_
          refine takeH hS (i := 2) (d := 5) (v := .pointer (some ⟨X, 2, none⟩)) rfl rfl (by kernel_rfl) (by kernel_rfl) (by kernel_rfl) (fun _ _ _ h => h) (Or.inl ⟨by kernel_rfl, fun w' hw' => by kernel_rfl⟩) ?_
          refine takeH hS (i := 3) (d := 6) (v := .int .i64 ((S1.R.h.length : Nat))) rfl rfl (by kernel_rfl) (by kernel_rfl) (by kernel_rfl) (fun _ _ _ h => h) (Or.inl ⟨by kernel_rfl, fun w' hw' => by exact exec_cell _ rfl ⟨X, 2, none⟩ rfl _ Try.underlying3 (((HX1.out.kept hw' (fun h => h)).cell 2).trans (rfl))⟩) ?_
          try go_frame
          refine takeH hS (i := 4) (d := 7) (v := .pointer (some ⟨X, 0, none⟩)) rfl rfl (by kernel_rfl) (by kernel_rfl) (by kernel_rfl) (fun _ _ _ h => h) (Or.inl ⟨by kernel_rfl, fun w' hw' => by kernel_rfl⟩) ?_
          refine takeH hS (i := 5) (d := 8) (v := .pointer (some ⟨X, 0, none⟩)) rfl rfl (by kernel_rfl) (by kernel_rfl) (by kernel_rfl) (fun _ _ _ h => h) (Or.inl ⟨by kernel_rfl, fun w' hw' => by kernel_rfl⟩) ?_
          refine takeH hS (i := 6) (d := 9) (v := .pointer (some ⟨X, 1, none⟩)) rfl rfl (by kernel_rfl) (by kernel_rfl) (by kernel_rfl) (fun _ _ _ h => h) (Or.inl ⟨by kernel_rfl, fun w' hw' => by kernel_rfl⟩) ?_
          refine takeH hS (i := 7) (d := 10) (v := .slice (some ⟨g, 0, none⟩) ((S1.R.h ++ S1.R.cs).length) (c1)) rfl rfl (by kernel_rfl) (by kernel_rfl) (by kernel_rfl) (fun _ _ _ h => h) (Or.inl ⟨by kernel_rfl, fun w' hw' => by exact exec_cellv _ rfl ⟨X, 1, none⟩ rfl (.slice (some ⟨g, 0, none⟩) ((S1.R.h ++ S1.R.cs).length) (c1)) Try.underlying88 rfl (((HX1.out.kept hw' (fun h => h)).cell 1).trans (rfl))⟩) ?_
          try go_frame
          refine takeH hS (i := 8) (d := 11) (v := .int .i64 (((S1.R.h ++ S1.R.cs).length : Nat))) rfl rfl (by kernel_rfl) (by kernel_rfl) (by kernel_rfl) (fun _ _ _ h => h) (Or.inl ⟨by kernel_rfl, fun w' hw' => by exact exec_len _ rfl Try.underlying88 _ _ _ rfl⟩) ?_
          refine takeH hS (i := 9) (d := 12) (v := .bool true) rfl rfl (by kernel_rfl) (by kernel_rfl) (by kernel_rfl) (fun _ _ _ h => h) (Or.inl ⟨by kernel_rfl, fun w' hw' => by exact exec_lss _ _ rfl ((S1.R.h.length : Nat)) (((S1.R.h ++ S1.R.cs).length : Nat)) rfl rfl true (dl) rfl⟩) ?_
          refine takeH hS (i := 10) (d := 13) (v := .bool true) rfl rfl (by kernel_rfl) (by kernel_rfl) (by kernel_rfl) (fun _ _ _ h => h) (Or.inl ⟨by kernel_rfl, fun w' hw' => by kernel_rfl⟩) ?_
          refine takeH hS (i := 11) (d := 14) (v := .pointer (some ⟨X, 0, none⟩)) rfl rfl (by kernel_rfl) (by kernel_rfl) (by kernel_rfl) (fun _ _ _ h => h) (Or.inl ⟨by kernel_rfl, fun w' hw' => by kernel_rfl⟩) ?_
          try go_frame
          refine takeH hS (i := 12) (d := 15) (v := .pointer (some ⟨X, 0, none⟩)) rfl rfl (by kernel_rfl) (by kernel_rfl) (by kernel_rfl) (fun _ _ _ h => h) (Or.inl ⟨by kernel_rfl, fun w' hw' => by kernel_rfl⟩) ?_
          refine takeH hS (i := 13) (d := 16) (v := .pointer (some ⟨X, 0, none⟩)) rfl rfl (by kernel_rfl) (by kernel_rfl) (by kernel_rfl) (fun _ _ _ h => h) (Or.inl ⟨by kernel_rfl, fun w' hw' => by kernel_rfl⟩) ?_
          refine takeH hS (i := 14) (d := 17) (v := .pointer (some ⟨D, 0, none⟩)) rfl rfl (by kernel_rfl) (by kernel_rfl) (by kernel_rfl) (fun _ _ _ h => h) (Or.inl ⟨by kernel_rfl, fun w' hw' => by exact exec_cellv _ rfl ⟨X, 0, none⟩ rfl (.pointer (some ⟨D, 0, none⟩)) Try.underlying45 rfl (((HX1.out.kept hw' (fun h => h)).cell 0).trans (rfl))⟩) ?_
          try go_frame
          refine nextH (i := 15) rfl (by kernel_rfl) (by kernel_rfl) (fun K' hK => ?_)
          go_wp2_with fail
          refine (ddown8 false Hdn.out (HP1.out.dv.below hB0)).mono ?_
          rintro en wrc1 ⟨rfl, hb⟩
          have hS1 : Kept (fun _ => False) wr wrc1 := kept_next hS hb
          have hB1 : Below wr.heap.size wr wrc1 := bel_next hB0 hb
          refine hK.out _ _ ⟨hS1, ?_⟩
          clear hK K' hS hb hB0
          refine takeH hS1 (i := 16) (d := 19) (v := .bool true) rfl rfl (by kernel_rfl) (by kernel_rfl) (by kernel_rfl) (fun _ _ _ h => h) (Or.inl ⟨by kernel_rfl, fun w' hw' => by kernel_rfl⟩) ?_
          refine takeH hS1 (i := 17) (d := 20) (v := .bool true) rfl rfl (by kernel_rfl) (by kernel_rfl) (by kernel_rfl) (fun _ _ _ h => h) (Or.inl ⟨by kernel_rfl, fun w' hw' => by kernel_rfl⟩) ?_
          refine takeH hS1 (i := 18) (d := 21) (v := .bool true) rfl rfl (by kernel_rfl) (by kernel_rfl) (by kernel_rfl) (fun _ _ _ h => h) (Or.inl ⟨by kernel_rfl, fun w' hw' => by kernel_rfl⟩) ?_
          refine takeH hS1 (i := 19) (d := 22) (v := .pointer (some ⟨X, 0, none⟩)) rfl rfl (by kernel_rfl) (by kernel_rfl) (by kernel_rfl) (fun _ _ _ h => h) (Or.inl ⟨by kernel_rfl, fun w' hw' => by kernel_rfl⟩) ?_
          try go_frame
          refine takeH hS1 (i := 20) (d := 23) (v := .pointer (some ⟨X, 0, none⟩)) rfl rfl (by kernel_rfl) (by kernel_rfl) (by kernel_rfl) (fun _ _ _ h => h) (Or.inl ⟨by kernel_rfl, fun w' hw' => by kernel_rfl⟩) ?_
          refine takeH hS1 (i := 21) (d := 24) (v := .pointer (some ⟨X, 1, none⟩)) rfl rfl (by kernel_rfl) (by kernel_rfl) (by kernel_rfl) (fun _ _ _ h => h) (Or.inl ⟨by kernel_rfl, fun w' hw' => by kernel_rfl⟩) ?_
          refine takeH hS1 (i := 22) (d := 25) (v := .slice (some ⟨g, 0, none⟩) ((S1.R.h ++ S1.R.cs).length) (c1)) rfl rfl (by kernel_rfl) (by kernel_rfl) (by kernel_rfl) (fun _ _ _ h => h) (Or.inl ⟨by kernel_rfl, fun w' hw' => by exact exec_cellv _ rfl ⟨X, 1, none⟩ rfl (.slice (some ⟨g, 0, none⟩) ((S1.R.h ++ S1.R.cs).length) (c1)) Try.underlying88 rfl (((HX1.out.kept hw' (fun h => h)).cell 1).trans (rfl))⟩) ?_
          refine takeH hS1 (i := 23) (d := 26) (v := .pointer (some ⟨X, 0, none⟩)) rfl rfl (by kernel_rfl) (by kernel_rfl) (by kernel_rfl) (fun _ _ _ h => h) (Or.inl ⟨by kernel_rfl, fun w' hw' => by kernel_rfl⟩) ?_
          try go_frame
          refine takeH hS1 (i := 24) (d := 27) (v := .pointer (some ⟨X, 0, none⟩)) rfl rfl (by kernel_rfl) (by kernel_rfl) (by kernel_rfl) (fun _ _ _ h => h) (Or.inl ⟨by kernel_rfl, fun w' hw' => by kernel_rfl⟩) ?_
          refine takeH hS1 (i := 25) (d := 28) (v := .pointer (some ⟨X, 2, none⟩)) rfl rfl (by kernel_rfl) (by kernel_rfl) (by kernel_rfl) (fun _ _ _ h => h) (Or.inl ⟨by kernel_rfl, fun w' hw' => by kernel_rfl⟩) ?_
          refine takeH hS1 (i := 26) (d := 29) (v := .int .i64 ((S1.R.h.length : Nat))) rfl rfl (by kernel_rfl) (by kernel_rfl) (by kernel_rfl) (fun _ _ _ h => h) (Or.inl ⟨by kernel_rfl, fun w' hw' => by exact exec_cell _ rfl ⟨X, 2, none⟩ rfl _ Try.underlying3 (((HX1.out.kept hw' (fun h => h)).cell 2).trans (rfl))⟩) ?_
          refine takeH hS1 (i := 27) (d := 30) (v := .pointer (some ⟨g, 0 + S1.R.h.length * 68, none⟩)) rfl rfl (by kernel_rfl) (by kernel_rfl) (by kernel_rfl) (fun _ _ _ h => h) (Or.inl ⟨by kernel_rfl, fun w' hw' => by exact exec_indexO elEv _ _ rfl g 0 (S1.R.h ++ S1.R.cs).length c1 S1.R.h.length rfl rfl (by omega)⟩) ?_
          try go_frame
          refine takeH hS1 (i := 28) (d := 31) (v := .pointer (some ⟨g, 0 + S1.R.h.length * 68, none⟩)) rfl rfl (by kernel_rfl) (by kernel_rfl) (by kernel_rfl) (fun _ _ _ h => h) (Or.inl ⟨by kernel_rfl, fun w' hw' => by kernel_rfl⟩) ?_
          refine takeH hS1 (i := 29) (d := 32) (v := .int .i64 (e.at_)) rfl rfl (by kernel_rfl) (by kernel_rfl) (by kernel_rfl) (fun _ _ _ h => h) (Or.inl ⟨by kernel_rfl, fun w' hw' => by exact exec_cell _ rfl ⟨g, 0 + S1.R.h.length * 68, none⟩ rfl _ Try.underlying3 (Hcx.out w' (hw'.below (Nat.le_refl _) (fun _ _ h => h)))⟩) ?_
          refine takeH hS1 (i := 30) (d := 33) (v := .pointer (some ⟨X, 0, none⟩)) rfl rfl (by kernel_rfl) (by kernel_rfl) (by kernel_rfl) (fun _ _ _ h => h) (Or.inl ⟨by kernel_rfl, fun w' hw' => by kernel_rfl⟩) ?_
          refine takeH hS1 (i := 31) (d := 34) (v := .pointer (some ⟨X, 0, none⟩)) rfl rfl (by kernel_rfl) (by kernel_rfl) (by kernel_rfl) (fun _ _ _ h => h) (Or.inl ⟨by kernel_rfl, fun w' hw' => by kernel_rfl⟩) ?_
          try go_frame
          refine takeH hS1 (i := 32) (d := 35) (v := .pointer (some ⟨X, 0, none⟩)) rfl rfl (by kernel_rfl) (by kernel_rfl) (by kernel_rfl) (fun _ _ _ h => h) (Or.inl ⟨by kernel_rfl, fun w' hw' => by kernel_rfl⟩) ?_
          refine takeH hS1 (i := 33) (d := 36) (v := .pointer (some ⟨D, 0, none⟩)) rfl rfl (by kernel_rfl) (by kernel_rfl) (by kernel_rfl) (fun _ _ _ h => h) (Or.inl ⟨by kernel_rfl, fun w' hw' => by exact exec_cellv _ rfl ⟨X, 0, none⟩ rfl (.pointer (some ⟨D, 0, none⟩)) Try.underlying45 rfl (((HX1.out.kept hw' (fun h => h)).cell 0).trans (rfl))⟩) ?_
          try go_frame
          refine nextH (i := 34) rfl (by kernel_rfl) (by kernel_rfl) (fun K' hK => ?_)
          go_wp2_with fail
          refine (dcount8 (HP1.out.dv.below hB1)).mono ?_
          rintro en wrc2 ⟨rfl, hb⟩
          have hS2 : Kept (fun _ => False) wr wrc2 := kept_next hS1 hb
          have hB2 : Below wr.heap.size wr wrc2 := bel_next hB1 hb
          refine hK.out _ _ ⟨hS2, ?_⟩
          clear hK K' hS1 hb hB1
          refine takeH hS2 (i := 35) (d := 38) (v := .bool true) rfl rfl (by kernel_rfl) (by kernel_rfl) (by kernel_rfl) (fun _ _ _ h => h) (Or.inl ⟨by kernel_rfl, fun w' hw' => by exact exec_leq _ _ rfl (e.at_) (S1.R.d.count) rfl rfl true (dg) rfl⟩) ?_
          refine takeH hS2 (i := 36) (d := 39) (v := .bool true) rfl rfl (by kernel_rfl) (by kernel_rfl) (by kernel_rfl) (fun _ _ _ h => h) (Or.inl ⟨by kernel_rfl, fun w' hw' => by kernel_rfl⟩) ?_
          refine wpAnyH_done (by kernel_rfl) ?_ _
          try go_frame
          have HPq := Lib.hid (HP1.out.below hB2)
          have Htoq := Lib.hid (Hto.out.below hB2)
          have Hrq : Hid (∀ W, Below wrc2.heap.size wrc2 W → W.rangeAt g (0 + S1.R.h.length * 68) (evL e)) := Lib.hid (fun W hb9 => Hrx.out W (bel_next hB2 hb9))
          clear hS2 hB2 HX1 HP1 Hto Hrx Hcx
          generalize wrc2 = wq at *
          have HXq := Lib.hid HPq.out.blk
          have hzv := Try.zeroEv
          go_upto_region 1 with fail
          refine wp_region_held (S := fun w' => Kept (fun _ => False) wq w') (by kernel_rfl) ?_
          change wpAnyH _ _ _ _ _ _ _ _ (World.drew _)
          have hQ : Kept (fun _ => False) wq wq.drew := (Kept.refl _ _).drew
          have hB0 : Below wq.heap.size wq wq.drew := (Below.refl _ _).drew
          refine takeH hQ (i := 0) (d := 40) (v := .pointer (some ⟨X, 0, none⟩)) rfl rfl (by kernel_rfl) (by kernel_rfl) (by kernel_rfl) (fun _ _ _ h => h) (Or.inl ⟨by kernel_rfl, fun w' hw' => by kernel_rfl⟩) ?_
          refine takeH hQ (i := 1) (d := 41) (v := .pointer (some ⟨X, 0, none⟩)) rfl rfl (by kernel_rfl) (by kernel_rfl) (by kernel_rfl) (fun _ _ _ h => h) (Or.inl ⟨by kernel_rfl, fun w' hw' => by kernel_rfl⟩) ?_
          refine takeH hQ (i := 2) (d := 42) (v := .pointer (some ⟨X, 1, none⟩)) rfl rfl (by kernel_rfl) (by kernel_rfl) (by kernel_rfl) (fun _ _ _ h => h) (Or.inl ⟨by kernel_rfl, fun w' hw' => by kernel_rfl⟩) ?_
          refine takeH hQ (i := 3) (d := 43) (v := .slice (some ⟨g, 0, none⟩) ((S1.R.h ++ S1.R.cs).length) (c1)) rfl rfl (by kernel_rfl) (by kernel_rfl) (by kernel_rfl) (fun _ _ _ h => h) (Or.inl ⟨by kernel_rfl, fun w' hw' => by exact exec_cellv _ rfl ⟨X, 1, none⟩ rfl (.slice (some ⟨g, 0, none⟩) ((S1.R.h ++ S1.R.cs).length) (c1)) Try.underlying88 rfl (((HXq.out.kept hw' (fun h => h)).cell 1).trans (rfl))⟩) ?_
          try go_frame
          refine takeH hQ (i := 4) (d := 44) (v := .pointer (some ⟨X, 0, none⟩)) rfl rfl (by kernel_rfl) (by kernel_rfl) (by kernel_rfl) (fun _ _ _ h => h) (Or.inl ⟨by kernel_rfl, fun w' hw' => by kernel_rfl⟩) ?_
          refine takeH hQ (i := 5) (d := 45) (v := .pointer (some ⟨X, 0, none⟩)) rfl rfl (by kernel_rfl) (by kernel_rfl) (by kernel_rfl) (fun _ _ _ h => h) (Or.inl ⟨by kernel_rfl, fun w' hw' => by kernel_rfl⟩) ?_
          refine takeH hQ (i := 6) (d := 46) (v := .pointer (some ⟨X, 2, none⟩)) rfl rfl (by kernel_rfl) (by kernel_rfl) (by kernel_rfl) (fun _ _ _ h => h) (Or.inl ⟨by kernel_rfl, fun w' hw' => by kernel_rfl⟩) ?_
          refine takeH hQ (i := 7) (d := 47) (v := .int .i64 ((S1.R.h.length : Nat))) rfl rfl (by kernel_rfl) (by kernel_rfl) (by kernel_rfl) (fun _ _ _ h => h) (Or.inl ⟨by kernel_rfl, fun w' hw' => by exact exec_cell _ rfl ⟨X, 2, none⟩ rfl _ Try.underlying3 (((HXq.out.kept hw' (fun h => h)).cell 2).trans (rfl))⟩) ?_
          try go_frame
          refine takeH hQ (i := 8) (d := 48) (v := .pointer (some ⟨g, 0 + S1.R.h.length * 68, none⟩)) rfl rfl (by kernel_rfl) (by kernel_rfl) (by kernel_rfl) (fun _ _ _ h => h) (Or.inl ⟨by kernel_rfl, fun w' hw' => by exact exec_indexO elEv _ _ rfl g 0 (S1.R.h ++ S1.R.cs).length c1 S1.R.h.length rfl rfl (by omega)⟩) ?_
          refine takeH hQ (i := 9) (d := 49) (v := .agg (evA e)) rfl rfl (by kernel_rfl) (by kernel_rfl) (by kernel_rfl) (fun _ _ _ h => h) (Or.inl ⟨by kernel_rfl, fun w' hw' => by exact exec_load_v _ _ rfl g (0 + S1.R.h.length * 68) rfl (evA e) _ (Hrq.out w' (hw'.below (Nat.le_refl _) (fun _ _ h => h))) Try.underlying37 rfl (info_evA He.out.len)⟩) ?_
          try go_frame
          refine nextH (i := 10) rfl (by kernel_rfl) (by kernel_rfl) (fun K' hK => ?_)
          go_wp2_with fail
          have hal : Below wq.drew.heap.size wq.drew (wq.drew.alloc (Obj.cells (evA ev0) 37)) := below_alloc _ _
          have HHa : Hid (Blk (wq.drew.alloc (Obj.cells (evA ev0) 37)) wq.heap.size 37 (evA ev0)) := Lib.hid (Blk.new (wq.drew) 37 (evA ev0))
          have hQ1 : Kept (fun _ => False) wq (wq.drew.alloc (Obj.cells (evA ev0) 37)) := kept_next hQ hal
          have hB1 : Below wq.heap.size wq (wq.drew.alloc (Obj.cells (evA ev0) 37)) := bel_next hB0 hal
          refine hK.out _ _ ⟨hQ1, ?_⟩
          clear hK K' hal hQ hB0
          change wpAnyH _ _ _ _ _ _ _ _ (wq.drew.alloc (Obj.cells (evA ev0) 37))
          generalize wq.drew.alloc (Obj.cells (evA ev0) 37) = wqc1 at *
          refine nextH (i := 11) rfl (by kernel_rfl) (by kernel_rfl) (fun K' hK => ?_)
          refine wpo_store _ _ rfl (wq.heap.size) (evA e) rfl rfl _ _ HHa.out (info_evA He.out.len) (by rw [evA_size He.out.len, evA_size (zeros_length 64)]) (evA_one _) ?_
          intro wqc2 hP hq
          have HE3 := Lib.hid hP
          have hQ2 : Kept (fun _ => False) wq wqc2 := hQ1.andThen hq (fun _ _ h => h) (fun i hi e => absurd e (Nat.ne_of_lt hi))
          have hB2 : Below wq.heap.size wq wqc2 := bkept hB1 (Nat.le_refl _) hq (fun i hi e => absurd e (Nat.ne_of_lt hi))
          refine hK.out _ _ ⟨hQ2, ?_⟩
          clear hK K' hP hq hQ1 hB1 HHa
          change wpAnyH _ _ _ _ _ _ _ (Act.put _ none undef) _
          go_frame
          refine wpAnyH_done (by kernel_rfl) ?_ _
          try go_frame
          have HP3 := Lib.hid (HPq.out.below hB2)
          have Hto3 := Lib.hid (Htoq.out.below hB2)
          clear hQ2 hB2 HXq HPq Htoq Hrq hzv
          generalize wqc2 = w3 at *
          generalize wq.heap.size = Y at *
          have hYX : Y ≠ X := fun e9 => by
            have h9 := HP3.out.blk
            rw [← e9] at h9
            exact Blk.unlike HE3.out h9 (by decide) rfl
          have c2 := HP3.out.c2
          have f2 := HP3.out.blk.frozen 2
          obtain ⟨hp4, hk4⟩ := HP3.out.past hcs1
          have HP4 := Lib.hid hp4
          have HE4 := Lib.hid (HE3.out.kept hk4 hYX)
          have Hk4 := Lib.hid hk4
          clear hp4 hk4
          go_upto_region 3 with fail
          clear c2 f2
          generalize w3.setCell ⟨X, 2, none⟩ (.int .i64 ((S1.R.h.length : Nat) + 1)) = w4 at *
          go_wp2_with (refine wpl_load rfl _ rfl (Y) rfl _ _ _ (HE4.out) Try.underlying37 rfl (info_evA He.out.len) ?_; go_frame)
          refine (phap e He.out HP4.out (by have := Hn1.out; rw [hcs1] at this; simp at this ⊢; omega) (fun z o => by have := (HP3.out.mn z o).2; show (S1.M z o).2 + 1 ≤ ((S1.R.h ++ [e]).length : Int); rw [List.length_append, List.length_singleton]; omega) rfl).mono ?_
          rintro en w5 ⟨rfl, hT⟩
          have HT5 : Hid (PdTo lo w X F ⟨⟨(hapSp S1.R.d S1.R.zs e).d, (hapSp S1.R.d S1.R.zs e).zs, cs1, S1.R.h ++ [e]⟩, hapM S1.R.d S1.R.zs e S1.M⟩ w5) := Lib.hid (PdTo.stepX Hto3.out Hk4.out hT Hi1.out)
          have Hn5 : Hid ((S1.R.h ++ [e]).length + cs1.length ≤ 40000) := Lib.hid (by have := Hn1.out; rw [hcs1] at this; simp at this ⊢; omega)
          have HR5 : Hid (dueF (hapSp S1.R.d S1.R.zs e).d (hapSp S1.R.d S1.R.zs e).zs cs1 (S1.R.h ++ [e]) = dueF S.R.d S.R.zs S.R.cs S.R.h) := Lib.hid (by rw [← HR.out, hcs1, dueF_go Hdn.out Hgo.out])
          have HM5 : Hid (dueM (hapSp S1.R.d S1.R.zs e).d (hapSp S1.R.d S1.R.zs e).zs cs1 (hapM S1.R.d S1.R.zs e S1.M) = dueM S.R.d S.R.zs S.R.cs S.M) := Lib.hid (by rw [← HM.out, hcs1, dueM, if_pos ⟨Hdn.out, Hgo.out⟩])
          clear hT HP3 HP4 HE3 HE4 Hk4 Hto3 hYX
          go_wp2_with fail
          go_roundg cs1.length
          case measure => rw [hk, hcs1, List.length_cons]; omega
          case rel => exact ⟨⟨⟨(hapSp S1.R.d S1.R.zs e).d, (hapSp S1.R.d S1.R.zs e).zs, cs1, S1.R.h ++ [e]⟩, hapM S1.R.d S1.R.zs e S1.M⟩, rfl, HT5.out, Hn5.out, HR5.out, HM5.out⟩
        · have dg : decide (e.at_ ≤ S1.R.d.count) = false := decide_eq_false hgo
          have Hgo := Lib.hid hgo
          have Hcs1 := Lib.hid hcs1
          clear hgo hcs1
          go_upto_region 0 with fail
          refine wp_region_held (S := fun w' => Kept (fun _ => False) wr w') (by kernel_rfl) ?_
          change wpAnyH _ _ _ _ _ _ _ _ (World.drew _)
          have hS : Kept (fun _ => False) wr wr.drew := (Kept.refl _ _).drew
          have hB0 : Below wr.heap.size wr wr.drew := (Below.refl _ _).drew
          refine takeH hS (i := 0) (d := 3) (v := .pointer (some ⟨X, 0, none⟩)) rfl rfl (by kernel_rfl) (by kernel_rfl) (by kernel_rfl) (fun _ _ _ h => h) (Or.inl ⟨by kernel_rfl, fun w' hw' => by kernel_rfl⟩) ?_
          refine takeH hS (i := 1) (d := 4) (v := .pointer (some ⟨X, 0, none⟩)) rfl rfl (by kernel_rfl) (by kernel_rfl) (by kernel_rfl) (fun _ _ _ h => h) (Or.inl ⟨by kernel_rfl, fun w' hw' => by kernel_rfl⟩) ?_
          refine takeH hS (i := 2) (d := 5) (v := .pointer (some ⟨X, 2, none⟩)) rfl rfl (by kernel_rfl) (by kernel_rfl) (by kernel_rfl) (fun _ _ _ h => h) (Or.inl ⟨by kernel_rfl, fun w' hw' => by kernel_rfl⟩) ?_
          refine takeH hS (i := 3) (d := 6) (v := .int .i64 ((S1.R.h.length : Nat))) rfl rfl (by kernel_rfl) (by kernel_rfl) (by kernel_rfl) (fun _ _ _ h => h) (Or.inl ⟨by kernel_rfl, fun w' hw' => by exact exec_cell _ rfl ⟨X, 2, none⟩ rfl _ Try.underlying3 (((HX1.out.kept hw' (fun h => h)).cell 2).trans (rfl))⟩) ?_
          try go_frame
          refine takeH hS (i := 4) (d := 7) (v := .pointer (some ⟨X, 0, none⟩)) rfl rfl (by kernel_rfl) (by kernel_rfl) (by kernel_rfl) (fun _ _ _ h => h) (Or.inl ⟨by kernel_rfl, fun w' hw' => by kernel_rfl⟩) ?_
          refine takeH hS (i := 5) (d := 8) (v := .pointer (some ⟨X, 0, none⟩)) rfl rfl (by kernel_rfl) (by kernel_rfl) (by kernel_rfl) (fun _ _ _ h => h) (Or.inl ⟨by kernel_rfl, fun w' hw' => by kernel_rfl⟩) ?_
          refine takeH hS (i := 6) (d := 9) (v := .pointer (some ⟨X, 1, none⟩)) rfl rfl (by kernel_rfl) (by kernel_rfl) (by kernel_rfl) (fun _ _ _ h => h) (Or.inl ⟨by kernel_rfl, fun w' hw' => by kernel_rfl⟩) ?_
          refine takeH hS (i := 7) (d := 10) (v := .slice (some ⟨g, 0, none⟩) ((S1.R.h ++ S1.R.cs).length) (c1)) rfl rfl (by kernel_rfl) (by kernel_rfl) (by kernel_rfl) (fun _ _ _ h => h) (Or.inl ⟨by kernel_rfl, fun w' hw' => by exact exec_cellv _ rfl ⟨X, 1, none⟩ rfl (.slice (some ⟨g, 0, none⟩) ((S1.R.h ++ S1.R.cs).length) (c1)) Try.underlying88 rfl (((HX1.out.kept hw' (fun h => h)).cell 1).trans (rfl))⟩) ?_
          try go_frame
          refine takeH hS (i := 8) (d := 11) (v := .int .i64 (((S1.R.h ++ S1.R.cs).length : Nat))) rfl rfl (by kernel_rfl) (by kernel_rfl) (by kernel_rfl) (fun _ _ _ h => h) (Or.inl ⟨by kernel_rfl, fun w' hw' => by exact exec_len _ rfl Try.underlying88 _ _ _ rfl⟩) ?_
          refine takeH hS (i := 9) (d := 12) (v := .bool true) rfl rfl (by kernel_rfl) (by kernel_rfl) (by kernel_rfl) (fun _ _ _ h => h) (Or.inl ⟨by kernel_rfl, fun w' hw' => by exact exec_lss _ _ rfl ((S1.R.h.length : Nat)) (((S1.R.h ++ S1.R.cs).length : Nat)) rfl rfl true (dl) rfl⟩) ?_
          refine takeH hS (i := 10) (d := 13) (v := .bool true) rfl rfl (by kernel_rfl) (by kernel_rfl) (by kernel_rfl) (fun _ _ _ h => h) (Or.inl ⟨by kernel_rfl, fun w' hw' => by kernel_rfl⟩) ?_
          refine takeH hS (i := 11) (d := 14) (v := .pointer (some ⟨X, 0, none⟩)) rfl rfl (by kernel_rfl) (by kernel_rfl) (by kernel_rfl) (fun _ _ _ h => h) (Or.inl ⟨by kernel_rfl, fun w' hw' => by kernel_rfl⟩) ?_
          try go_frame
          refine takeH hS (i := 12) (d := 15) (v := .pointer (some ⟨X, 0, none⟩)) rfl rfl (by kernel_rfl) (by kernel_rfl) (by kernel_rfl) (fun _ _ _ h => h) (Or.inl ⟨by kernel_rfl, fun w' hw' => by kernel_rfl⟩) ?_
          refine takeH hS (i := 13) (d := 16) (v := .pointer (some ⟨X, 0, none⟩)) rfl rfl (by kernel_rfl) (by kernel_rfl) (by kernel_rfl) (fun _ _ _ h => h) (Or.inl ⟨by kernel_rfl, fun w' hw' => by kernel_rfl⟩) ?_
          refine takeH hS (i := 14) (d := 17) (v := .pointer (some ⟨D, 0, none⟩)) rfl rfl (by kernel_rfl) (by kernel_rfl) (by kernel_rfl) (fun _ _ _ h => h) (Or.inl ⟨by kernel_rfl, fun w' hw' => by exact exec_cellv _ rfl ⟨X, 0, none⟩ rfl (.pointer (some ⟨D, 0, none⟩)) Try.underlying45 rfl (((HX1.out.kept hw' (fun h => h)).cell 0).trans (rfl))⟩) ?_
          try go_frame
          refine nextH (i := 15) rfl (by kernel_rfl) (by kernel_rfl) (fun K' hK => ?_)
          go_wp2_with fail
          refine (ddown8 false Hdn.out (HP1.out.dv.below hB0)).mono ?_
          rintro en wrc1 ⟨rfl, hb⟩
          have hS1 : Kept (fun _ => False) wr wrc1 := kept_next hS hb
          have hB1 : Below wr.heap.size wr wrc1 := bel_next hB0 hb
          refine hK.out _ _ ⟨hS1, ?_⟩
          clear hK K' hS hb hB0
          refine takeH hS1 (i := 16) (d := 19) (v := .bool true) rfl rfl (by kernel_rfl) (by kernel_rfl) (by kernel_rfl) (fun _ _ _ h => h) (Or.inl ⟨by kernel_rfl, fun w' hw' => by kernel_rfl⟩) ?_
          refine takeH hS1 (i := 17) (d := 20) (v := .bool true) rfl rfl (by kernel_rfl) (by kernel_rfl) (by kernel_rfl) (fun _ _ _ h => h) (Or.inl ⟨by kernel_rfl, fun w' hw' => by kernel_rfl⟩) ?_
          refine takeH hS1 (i := 18) (d := 21) (v := .bool true) rfl rfl (by kernel_rfl) (by kernel_rfl) (by kernel_rfl) (fun _ _ _ h => h) (Or.inl ⟨by kernel_rfl, fun w' hw' => by kernel_rfl⟩) ?_
          refine takeH hS1 (i := 19) (d := 22) (v := .pointer (some ⟨X, 0, none⟩)) rfl rfl (by kernel_rfl) (by kernel_rfl) (by kernel_rfl) (fun _ _ _ h => h) (Or.inl ⟨by kernel_rfl, fun w' hw' => by kernel_rfl⟩) ?_
          try go_frame
          refine takeH hS1 (i := 20) (d := 23) (v := .pointer (some ⟨X, 0, none⟩)) rfl rfl (by kernel_rfl) (by kernel_rfl) (by kernel_rfl) (fun _ _ _ h => h) (Or.inl ⟨by kernel_rfl, fun w' hw' => by kernel_rfl⟩) ?_
          refine takeH hS1 (i := 21) (d := 24) (v := .pointer (some ⟨X, 1, none⟩)) rfl rfl (by kernel_rfl) (by kernel_rfl) (by kernel_rfl) (fun _ _ _ h => h) (Or.inl ⟨by kernel_rfl, fun w' hw' => by kernel_rfl⟩) ?_
          refine takeH hS1 (i := 22) (d := 25) (v := .slice (some ⟨g, 0, none⟩) ((S1.R.h ++ S1.R.cs).length) (c1)) rfl rfl (by kernel_rfl) (by kernel_rfl) (by kernel_rfl) (fun _ _ _ h => h) (Or.inl ⟨by kernel_rfl, fun w' hw' => by exact exec_cellv _ rfl ⟨X, 1, none⟩ rfl (.slice (some ⟨g, 0, none⟩) ((S1.R.h ++ S1.R.cs).length) (c1)) Try.underlying88 rfl (((HX1.out.kept hw' (fun h => h)).cell 1).trans (rfl))⟩) ?_
          refine takeH hS1 (i := 23) (d := 26) (v := .pointer (some ⟨X, 0, none⟩)) rfl rfl (by kernel_rfl) (by kernel_rfl) (by kernel_rfl) (fun _ _ _ h => h) (Or.inl ⟨by kernel_rfl, fun w' hw' => by kernel_rfl⟩) ?_
          try go_frame
          refine takeH hS1 (i := 24) (d := 27) (v := .pointer (some ⟨X, 0, none⟩)) rfl rfl (by kernel_rfl) (by kernel_rfl) (by kernel_rfl) (fun _ _ _ h => h) (Or.inl ⟨by kernel_rfl, fun w' hw' => by kernel_rfl⟩) ?_
          refine takeH hS1 (i := 25) (d := 28) (v := .pointer (some ⟨X, 2, none⟩)) rfl rfl (by kernel_rfl) (by kernel_rfl) (by kernel_rfl) (fun _ _ _ h => h) (Or.inl ⟨by kernel_rfl, fun w' hw' => by kernel_rfl⟩) ?_
          refine takeH hS1 (i := 26) (d := 29) (v := .int .i64 ((S1.R.h.length : Nat))) rfl rfl (by kernel_rfl) (by kernel_rfl) (by kernel_rfl) (fun _ _ _ h => h) (Or.inl ⟨by kernel_rfl, fun w' hw' => by exact exec_cell _ rfl ⟨X, 2, none⟩ rfl _ Try.underlying3 (((HX1.out.kept hw' (fun h => h)).cell 2).trans (rfl))⟩) ?_
          refine takeH hS1 (i := 27) (d := 30) (v := .pointer (some ⟨g, 0 + S1.R.h.length * 68, none⟩)) rfl rfl (by kernel_rfl) (by kernel_rfl) (by kernel_rfl) (fun _ _ _ h => h) (Or.inl ⟨by kernel_rfl, fun w' hw' => by exact exec_indexO elEv _ _ rfl g 0 (S1.R.h ++ S1.R.cs).length c1 S1.R.h.length rfl rfl (by omega)⟩) ?_
          try go_frame
          refine takeH hS1 (i := 28) (d := 31) (v := .pointer (some ⟨g, 0 + S1.R.h.length * 68, none⟩)) rfl rfl (by kernel_rfl) (by kernel_rfl) (by kernel_rfl) (fun _ _ _ h => h) (Or.inl ⟨by kernel_rfl, fun w' hw' => by kernel_rfl⟩) ?_
          refine takeH hS1 (i := 29) (d := 32) (v := .int .i64 (e.at_)) rfl rfl (by kernel_rfl) (by kernel_rfl) (by kernel_rfl) (fun _ _ _ h => h) (Or.inl ⟨by kernel_rfl, fun w' hw' => by exact exec_cell _ rfl ⟨g, 0 + S1.R.h.length * 68, none⟩ rfl _ Try.underlying3 (Hcx.out w' (hw'.below (Nat.le_refl _) (fun _ _ h => h)))⟩) ?_
          refine takeH hS1 (i := 30) (d := 33) (v := .pointer (some ⟨X, 0, none⟩)) rfl rfl (by kernel_rfl) (by kernel_rfl) (by kernel_rfl) (fun _ _ _ h => h) (Or.inl ⟨by kernel_rfl, fun w' hw' => by kernel_rfl⟩) ?_
          refine takeH hS1 (i := 31) (d := 34) (v := .pointer (some ⟨X, 0, none⟩)) rfl rfl (by kernel_rfl) (by kernel_rfl) (by kernel_rfl) (fun _ _ _ h => h) (Or.inl ⟨by kernel_rfl, fun w' hw' => by kernel_rfl⟩) ?_
          try go_frame
          refine takeH hS1 (i := 32) (d := 35) (v := .pointer (some ⟨X, 0, none⟩)) rfl rfl (by kernel_rfl) (by kernel_rfl) (by kernel_rfl) (fun _ _ _ h => h) (Or.inl ⟨by kernel_rfl, fun w' hw' => by kernel_rfl⟩) ?_
          refine takeH hS1 (i := 33) (d := 36) (v := .pointer (some ⟨D, 0, none⟩)) rfl rfl (by kernel_rfl) (by kernel_rfl) (by kernel_rfl) (fun _ _ _ h => h) (Or.inl ⟨by kernel_rfl, fun w' hw' => by exact exec_cellv _ rfl ⟨X, 0, none⟩ rfl (.pointer (some ⟨D, 0, none⟩)) Try.underlying45 rfl (((HX1.out.kept hw' (fun h => h)).cell 0).trans (rfl))⟩) ?_
          try go_frame
          refine nextH (i := 34) rfl (by kernel_rfl) (by kernel_rfl) (fun K' hK => ?_)
          go_wp2_with fail
          refine (dcount8 (HP1.out.dv.below hB1)).mono ?_
          rintro en wrc2 ⟨rfl, hb⟩
          have hS2 : Kept (fun _ => False) wr wrc2 := kept_next hS1 hb
          have hB2 : Below wr.heap.size wr wrc2 := bel_next hB1 hb
          refine hK.out _ _ ⟨hS2, ?_⟩
          clear hK K' hS1 hb hB1
          refine takeH hS2 (i := 35) (d := 38) (v := .bool false) rfl rfl (by kernel_rfl) (by kernel_rfl) (by kernel_rfl) (fun _ _ _ h => h) (Or.inl ⟨by kernel_rfl, fun w' hw' => by exact exec_leq _ _ rfl (e.at_) (S1.R.d.count) rfl rfl false (dg) rfl⟩) ?_
          refine takeH hS2 (i := 36) (d := 39) (v := .bool false) rfl rfl (by kernel_rfl) (by kernel_rfl) (by kernel_rfl) (fun _ _ _ h => h) (Or.inl ⟨by kernel_rfl, fun w' hw' => by kernel_rfl⟩) ?_
          refine wpAnyH_done (by kernel_rfl) ?_ _
          try go_frame
          have HF := Lib.hid (Hto.out.below hB2)
          clear hS2 hB2 HX1 HP1 Hto
          generalize wrc2 = w9 at *
          go_wp2_with fail
          first | go_end0 | refine bodyPost_ret (results_none rfl _ _ _) rfl ?_
          exact ⟨rfl, by rw [← HR.out, ← HM.out, Hcs1.out, dueF_late (by have := Hgo.out; omega), dueM_late (by have := Hgo.out; omega), ← Hcs1.out]; exact HF.out⟩
set_option maxRecDepth 100000 in
set_option maxHeartbeats 2000000 in
theorem pahead {lo X : Nat} {w : World} {S : St8} {F : Nat → Prop} (z : Int) (h : pdAt lo w X S F) (hn : S.R.h.length + S.R.cs.length ≤ 40000) :
    Calls Try.prog 54 #[.pointer (some ⟨X, 0, none⟩), .int .i64 z] w fun en w' => en = .returned (.tuple #[]) ∧ PdTo lo w X F (S.due z false) w' := by
  have H0 := Lib.hid h
  have Hn := Lib.hid hn
  obtain ⟨D, vz, ve, l, mb, n, f, hp, rfl⟩ := h
  have HP := Lib.hid hp
  have c0 := hp.c0
  have hl : l.length = S.R.zs.length := by rw [← hp.zs, List.length_map]
  have Hl := Lib.hid hl
  clear hp hn hl
  by_cases h0 : 0 ≤ z
  · have d0 : decide (0 ≤ z) = true := decide_eq_true h0
    by_cases h1 : z < (S.R.zs.length : Int)
    · have d1 : decide (z < (S.R.zs.length : Int)) = true := decide_eq_true h1
      have HE : Hid (S.due z false = (⟨dueF S.R.d S.R.zs S.R.cs S.R.h, dueM S.R.d S.R.zs S.R.cs S.M⟩ : St8)) := Lib.hid (by
        have hd : dhB S.R.zs.length z = true := by unfold dhB; simp [h0, h1]
        unfold St8.due dueD
        rw [if_pos (.inr hd), if_pos (.inr hd)])
      clear h0 h1
      go_enter Try.func54, Try.ntmps54
      go_wp2_with fail
      refine (dzones8 Hl.out HP.out.dv).mono ?_
      rintro en w1 ⟨rfl, hb⟩
      have HP0 := Lib.hid (pdAt.below H0.out hb)
      have Hb0 := Lib.hid hb
      clear hb c0 HP
      go_wp2_with fail
      refine (ppass (HP0.out) Hn.out).mono ?_
      rintro en w2 ⟨rfl, hT⟩
      have HF := Lib.hid (PdTo.after Hb0.out hT)
      clear hT
      go_wp2_with fail
      first | go_end0 | refine bodyPost_ret (results_none rfl _ _ _) rfl ?_
      exact ⟨rfl, by rw [HE.out]; exact HF.out⟩
    · have d1 : decide (z < (S.R.zs.length : Int)) = false := decide_eq_false h1
      have HE : Hid (S.due z false = S) := Lib.hid (by
        have hd : ¬ (dhB S.R.zs.length z = true) := by unfold dhB; simp [h0, h1]
        unfold St8.due dueD
        rw [if_neg (by simpa using hd), if_neg (by simpa using hd)])
      clear h0 h1
      go_enter Try.func54, Try.ntmps54
      go_wp2_with fail
      refine (dzones8 Hl.out HP.out.dv).mono ?_
      rintro en w1 ⟨rfl, hb⟩
      have HP1 := Lib.hid (PdTo.same H0.out hb)
      clear hb c0 HP
      go_wp2_with fail
      first | go_end0 | refine bodyPost_ret (results_none rfl _ _ _) rfl ?_
      exact ⟨rfl, by rw [HE.out]; exact HP1.out⟩
  · have d0 : decide (0 ≤ z) = false := decide_eq_false h0
    have HE : Hid (S.due z false = S) := Lib.hid (by
      have hd : ¬ (dhB S.R.zs.length z = true) := by unfold dhB; simp [h0]
      unfold St8.due dueD
      rw [if_neg (by simpa using hd), if_neg (by simpa using hd)])
    clear h0
    go_enter Try.func54, Try.ntmps54
    go_wp2_with fail
    first | go_end0 | refine bodyPost_ret (results_none rfl _ _ _) rfl ?_
    exact ⟨rfl, by rw [HE.out]; exact PdTo.same H0.out (Below.refl _ _)⟩
end Go.Proofs.Ytajkajgnjcnolaa

