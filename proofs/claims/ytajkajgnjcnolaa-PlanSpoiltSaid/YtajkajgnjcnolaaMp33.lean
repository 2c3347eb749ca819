import Derived.Test.YtajkajgnjcnolaaMp31
import Derived.Test.YtajkajgnjcnolaaMp32
import Derived.Deep.LoopGhost
namespace Go.Proofs.Ytajkajgnjcnolaa
open Go.RowKit Go.Maps
set_option linter.unusedVariables false
set_option linter.unnecessarySimpa false
set_option linter.unusedSimpArgs false
theorem RdE.from {T : TypeId} {lo n cap : Nat} {w : World} {a : Option Addr} {xs ys : List EvR} (h : RdE T lo w (.slice a n cap) (xs ++ ys)) : ∃ ca cc, Value.slice (if cap = xs.length then a else a.map (·.add (xs.length * 68))) (n - xs.length) (cap - xs.length) = .slice ca ys.length cc ∧ RdE T lo w (.slice ca ys.length cc) ys ∧ xs.length ≤ n ∧ n ≤ cap := by
  obtain ⟨hok, a', cap', hv, h2, h3, h4, h5⟩ := h
  obtain ⟨rfl, rfl, rfl⟩ : a = a' ∧ n = (xs ++ ys).length ∧ cap = cap' := by simpa using hv
  have hl : (xs ++ ys).length = xs.length + ys.length := List.length_append
  refine ⟨if cap = xs.length then a else a.map (·.add (xs.length * 68)), cap - xs.length, by rw [show (xs ++ ys).length - xs.length = ys.length by omega], ⟨fun x hx => hok x (by simp [hx]), _, _, rfl, by omega, by omega, fun g' hg' => ?_, fun hne => ?_⟩, by omega, h2⟩
  · have : ∃ ad, a = some ad ∧ ad.block = g' := by
      cases a with
      | none => split at hg' <;> simp [Value.ownBlock] at hg'
      | some ad =>
        refine ⟨ad, rfl, ?_⟩
        split at hg'
        · simpa [Value.ownBlock] using hg'
        · have e9 : (ad.add (xs.length * 68)).block = ad.block := by unfold Addr.add; split <;> rfl
          simpa [Value.ownBlock, e9] using hg'
    obtain ⟨ad, rfl, hb⟩ := this
    exact h4 g' (by simp [Value.ownBlock, hb])
  · obtain ⟨g, off, rfl, hc⟩ := h5 (by simp [hne])
    have h0 : 0 < ys.length := List.length_pos_iff.2 hne
    rw [if_neg (by omega), Option.map_some, Addr.add_mid g off (xs.length * 68)]
    refine ⟨g, off + xs.length * 68, rfl, fun i x hx => ?_⟩
    have h6 := hc (xs.length + i) x (by rw [List.getElem?_append_right (by omega), Nat.add_sub_cancel_left]; exact hx)
    rwa [Nat.add_mul, ← Nat.add_assoc] at h6
theorem RdE.to {T : TypeId} {lo n cap : Nat} {w : World} {a : Option Addr} {xs ys : List EvR} (h : RdE T lo w (.slice a n cap) (xs ++ ys)) : RdE T lo w (.slice a xs.length cap) xs ∧ xs.length ≤ cap := by
  obtain ⟨hok, a', cap', hv, h2, h3, h4, h5⟩ := h
  obtain ⟨rfl, rfl, rfl⟩ : a = a' ∧ n = (xs ++ ys).length ∧ cap = cap' := by simpa using hv
  have hl : (xs ++ ys).length = xs.length + ys.length := List.length_append
  refine ⟨⟨fun x hx => hok x (by simp [hx]), _, _, rfl, by omega, h3, fun g' hg' => h4 g' (by cases a with | none => simp [Value.ownBlock] at hg' | some ad => exact hg'), fun hne => ?_⟩, by omega⟩
  obtain ⟨g, off, rfl, hc⟩ := h5 (by simp [hne])
  exact ⟨g, off, rfl, fun i x hx => hc i x (by rw [List.getElem?_append_left (List.getElem?_eq_some_iff.1 hx).1]; exact hx)⟩
set_option maxRecDepth 100000 in
set_option maxHeartbeats 2000000 in
theorem pright (e : EvR) (w : World) (hl : e.p.length = 64) : Calls Try.prog 18 #[.agg (evA e)] w fun en w' => en = .returned (.bool (evRight e)) ∧ Below w.heap.size w w' := by
  have hb0 := below_alloc w (Obj.cells (evA e) 37)
  have HE := Lib.hid (Blk.new w 37 (evA e))
  have Hb0 := Lib.hid hb0
  clear hb0
  have k0 := (HE.out.cell 0).trans (evA_at0 e)
  have k1 := (HE.out.cell 1).trans (evA_at1 e)
  by_cases h0 : 0 ≤ e.at_
  · have d0 : decide (e.at_ ≥ 0) = true := decide_eq_true h0
    by_cases h1 : 1 ≤ e.kind
    · have d1 : decide (1 ≤ e.kind) = true := decide_eq_true h1
      have HV : Hid (evRight e = decide (e.kind ≤ 4)) := Lib.hid (by unfold evRight; rw [decide_eq_true h0, d1]; rfl)
      clear h0 h1
      go_enter Try.func18, Try.ntmps18
      go_upto_region 1 with fail
      generalize w.alloc (Obj.cells (evA e) 37) = w0 at *
      go_wp2_with fail
      go_ret
      exact ⟨ret_bool HV.out.symm, Hb0.out⟩
    · have d1 : decide (1 ≤ e.kind) = false := decide_eq_false h1
      have HV : Hid (evRight e = false) := Lib.hid (by unfold evRight; rw [d1]; simp)
      clear h0 h1
      go_enter Try.func18, Try.ntmps18
      go_upto_region 1 with fail
      generalize w.alloc (Obj.cells (evA e) 37) = w0 at *
      go_wp2_with fail
      go_ret
      exact ⟨ret_bool HV.out.symm, Hb0.out⟩
  · have d0 : decide (e.at_ ≥ 0) = false := decide_eq_false h0
    have HV : Hid (evRight e = false) := Lib.hid (by unfold evRight; rw [decide_eq_false h0]; simp)
    clear h0
    go_enter Try.func18, Try.ntmps18
    go_upto_region 1 with fail
    generalize w.alloc (Obj.cells (evA e) 37) = w0 at *
    go_wp2_with fail
    go_ret
    exact ⟨ret_bool HV.out.symm, Hb0.out⟩
set_option maxRecDepth 100000 in
set_option maxHeartbeats 2000000 in
theorem pclos_true {lo b1 b2 g off c i : Nat} {W : World} {cs : List EvR} {e x : EvR} (h1 : Blk W b1 88 #[.slice (some ⟨g, off, none⟩) cs.length c]) (h2 : Blk W b2 37 (evA e)) (hr : RdE 37 lo W (.slice (some ⟨g, off, none⟩) cs.length c) cs) (hx : cs[i]? = some x) (hd : decide (x.at_ > e.at_) = true) :
    Calls Try.prog 51 #[.int .i64 (i : Nat), .pointer (some ⟨b1, 0, none⟩), .pointer (some ⟨b2, 0, none⟩)] W fun en w' => en = .returned (.bool true) ∧ Below W.heap.size W w' := by
  have hi : i < cs.length := (List.getElem?_eq_some_iff.1 hx).1
  have H1 := Lib.hid h1
  have H2 := Lib.hid h2
  have HD := Lib.hid hd
  have Hx : Hid (∀ w', Below W.heap.size W w' → w'.cell? ⟨g, off + i * 68, none⟩ = some (.int .i64 x.at_)) := Lib.hid (fun w' hb => by
    obtain ⟨g', off', cap2, hv2, hr2, _⟩ := (hr.below hb).at_ hx
    obtain ⟨⟨rfl, rfl⟩, -⟩ : (g = g' ∧ off = off') ∧ c = cap2 := by simpa using hv2
    have h6 := hr2 0 _ (evL_at0 x)
    rwa [Nat.add_zero] at h6)
  clear h1 h2 hr hx hd
  go_enter Try.func51, Try.ntmps51
  go_upto_region 1 with fail
  refine wp_region_held (S := fun w' => Kept (fun _ => False) W w') (by kernel_rfl) ?_
  change wpAnyH _ _ _ _ _ _ _ _ (World.drew _)
  have hS : Kept (fun _ => False) W W.drew := (Kept.refl _ _).drew
  have hB0 : Below W.heap.size W W.drew := (Below.refl _ _).drew
  refine takeH hS (i := 0) (d := 5) (v := .slice (some ⟨g, off, none⟩) (cs.length) (c)) rfl rfl (by kernel_rfl) (by kernel_rfl) (by kernel_rfl) (fun _ _ _ h => h) (Or.inl ⟨by kernel_rfl, fun w' hw' => by exact exec_cellv _ rfl ⟨b1, 0, none⟩ rfl (.slice (some ⟨g, off, none⟩) (cs.length) (c)) Try.underlying88 rfl (((H1.out.kept hw' (fun h => h)).cell 0).trans (rfl))⟩) ?_
  refine takeH hS (i := 1) (d := 6) (v := .int .i64 ((i : Nat))) rfl rfl (by kernel_rfl) (by kernel_rfl) (by kernel_rfl) (fun _ _ _ h => h) (Or.inl ⟨by kernel_rfl, fun w' hw' => by kernel_rfl⟩) ?_
  refine takeH hS (i := 2) (d := 7) (v := .pointer (some ⟨g, off + i * 68, none⟩)) rfl rfl (by kernel_rfl) (by kernel_rfl) (by kernel_rfl) (fun _ _ _ h => h) (Or.inl ⟨by kernel_rfl, fun w' hw' => by exact exec_indexO elEv _ _ rfl g off cs.length c i rfl rfl hi⟩) ?_
  refine takeH hS (i := 3) (d := 8) (v := .pointer (some ⟨g, off + i * 68, none⟩)) rfl rfl (by kernel_rfl) (by kernel_rfl) (by kernel_rfl) (fun _ _ _ h => h) (Or.inl ⟨by kernel_rfl, fun w' hw' => by kernel_rfl⟩) ?_
  try go_frame
  refine takeH hS (i := 4) (d := 9) (v := .int .i64 (x.at_)) rfl rfl (by kernel_rfl) (by kernel_rfl) (by kernel_rfl) (fun _ _ _ h => h) (Or.inl ⟨by kernel_rfl, fun w' hw' => by exact exec_cell _ rfl ⟨g, off + i * 68, none⟩ rfl _ Try.underlying3 (Hx.out w' (hw'.below (Nat.le_refl _) (fun _ _ h => h)))⟩) ?_
  refine takeH hS (i := 5) (d := 10) (v := .pointer (some ⟨b2, 0, none⟩)) rfl rfl (by kernel_rfl) (by kernel_rfl) (by kernel_rfl) (fun _ _ _ h => h) (Or.inl ⟨by kernel_rfl, fun w' hw' => by kernel_rfl⟩) ?_
  refine takeH hS (i := 6) (d := 11) (v := .int .i64 (e.at_)) rfl rfl (by kernel_rfl) (by kernel_rfl) (by kernel_rfl) (fun _ _ _ h => h) (Or.inl ⟨by kernel_rfl, fun w' hw' => by exact exec_cell _ rfl ⟨b2, 0, none⟩ rfl _ Try.underlying3 (((H2.out.kept hw' (fun h => h)).cell 0).trans (evA_at0 e))⟩) ?_
  refine takeH hS (i := 7) (d := 12) (v := .bool true) rfl rfl (by kernel_rfl) (by kernel_rfl) (by kernel_rfl) (fun _ _ _ h => h) (Or.inl ⟨by kernel_rfl, fun w' hw' => by exact exec_gtr _ _ rfl (x.at_) (e.at_) rfl rfl true (HD.out) rfl⟩) ?_
  try go_frame
  refine takeH hS (i := 8) (d := 4) (v := .bool true) rfl rfl (by kernel_rfl) (by kernel_rfl) (by kernel_rfl) (fun _ _ _ h => h) (Or.inl ⟨by kernel_rfl, fun w' hw' => by kernel_rfl⟩) ?_
  refine wpAnyH_done (by kernel_rfl) ?_ _
  try go_frame
  have HF := Lib.hid hB0
  clear hS hB0
  generalize W.drew = w9 at *
  go_wp2_with fail
  go_ret
  exact ⟨rfl, HF.out⟩
set_option maxRecDepth 100000 in
set_option maxHeartbeats 2000000 in
theorem pclos_false {lo b1 b2 g off c i : Nat} {W : World} {cs : List EvR} {e x : EvR} (h1 : Blk W b1 88 #[.slice (some ⟨g, off, none⟩) cs.length c]) (h2 : Blk W b2 37 (evA e)) (hr : RdE 37 lo W (.slice (some ⟨g, off, none⟩) cs.length c) cs) (hx : cs[i]? = some x) (hd : decide (x.at_ > e.at_) = false) :
    Calls Try.prog 51 #[.int .i64 (i : Nat), .pointer (some ⟨b1, 0, none⟩), .pointer (some ⟨b2, 0, none⟩)] W fun en w' => en = .returned (.bool false) ∧ Below W.heap.size W w' := by
  have hi : i < cs.length := (List.getElem?_eq_some_iff.1 hx).1
  have H1 := Lib.hid h1
  have H2 := Lib.hid h2
  have HD := Lib.hid hd
  have Hx : Hid (∀ w', Below W.heap.size W w' → w'.cell? ⟨g, off + i * 68, none⟩ = some (.int .i64 x.at_)) := Lib.hid (fun w' hb => by
    obtain ⟨g', off', cap2, hv2, hr2, _⟩ := (hr.below hb).at_ hx
    obtain ⟨⟨rfl, rfl⟩, -⟩ : (g = g' ∧ off = off') ∧ c = cap2 := by simpa using hv2
    have h6 := hr2 0 _ (evL_at0 x)
    rwa [Nat.add_zero] at h6)
  clear h1 h2 hr hx hd
  go_enter Try.func51, Try.ntmps51
  go_upto_region 1 with fail
  refine wp_region_held (S := fun w' => Kept (fun _ => False) W w') (by kernel_rfl) ?_
  change wpAnyH _ _ _ _ _ _ _ _ (World.drew _)
  have hS : Kept (fun _ => False) W W.drew := (Kept.refl _ _).drew
  have hB0 : Below W.heap.size W W.drew := (Below.refl _ _).drew
  refine takeH hS (i := 0) (d := 5) (v := .slice (some ⟨g, off, none⟩) (cs.length) (c)) rfl rfl (by kernel_rfl) (by kernel_rfl) (by kernel_rfl) (fun _ _ _ h => h) (Or.inl ⟨by kernel_rfl, fun w' hw' => by exact exec_cellv _ rfl ⟨b1, 0, none⟩ rfl (.slice (some ⟨g, off, none⟩) (cs.length) (c)) Try.underlying88 rfl (((H1.out.kept hw' (fun h => h)).cell 0).trans (rfl))⟩) ?_
  refine takeH hS (i := 1) (d := 6) (v := .int .i64 ((i : Nat))) rfl rfl (by kernel_rfl) (by kernel_rfl) (by kernel_rfl) (fun _ _ _ h => h) (Or.inl ⟨by kernel_rfl, fun w' hw' => by kernel_rfl⟩) ?_
  refine takeH hS (i := 2) (d := 7) (v := .pointer (some ⟨g, off + i * 68, none⟩)) rfl rfl (by kernel_rfl) (by kernel_rfl) (by kernel_rfl) (fun _ _ _ h => h) (Or.inl ⟨by kernel_rfl, fun w' hw' => by exact exec_indexO elEv _ _ rfl g off cs.length c i rfl rfl hi⟩) ?_
  refine takeH hS (i := 3) (d := 8) (v := .pointer (some ⟨g, off + i * 68, none⟩)) rfl rfl (by kernel_rfl) (by kernel_rfl) (by kernel_rfl) (fun _ _ _ h => h) (Or.inl ⟨by kernel_rfl, fun w' hw' => by kernel_rfl⟩) ?_
  try go_frame
  refine takeH hS (i := 4) (d := 9) (v := .int .i64 (x.at_)) rfl rfl (by kernel_rfl) (by kernel_rfl) (by kernel_rfl) (fun _ _ _ h => h) (Or.inl ⟨by kernel_rfl, fun w' hw' => by exact exec_cell _ rfl ⟨g, off + i * 68, none⟩ rfl _ Try.underlying3 (Hx.out w' (hw'.below (Nat.le_refl _) (fun _ _ h => h)))⟩) ?_
  refine takeH hS (i := 5) (d := 10) (v := .pointer (some ⟨b2, 0, none⟩)) rfl rfl (by kernel_rfl) (by kernel_rfl) (by kernel_rfl) (fun _ _ _ h => h) (Or.inl ⟨by kernel_rfl, fun w' hw' => by kernel_rfl⟩) ?_
  refine takeH hS (i := 6) (d := 11) (v := .int .i64 (e.at_)) rfl rfl (by kernel_rfl) (by kernel_rfl) (by kernel_rfl) (fun _ _ _ h => h) (Or.inl ⟨by kernel_rfl, fun w' hw' => by exact exec_cell _ rfl ⟨b2, 0, none⟩ rfl _ Try.underlying3 (((H2.out.kept hw' (fun h => h)).cell 0).trans (evA_at0 e))⟩) ?_
  refine takeH hS (i := 7) (d := 12) (v := .bool false) rfl rfl (by kernel_rfl) (by kernel_rfl) (by kernel_rfl) (fun _ _ _ h => h) (Or.inl ⟨by kernel_rfl, fun w' hw' => by exact exec_gtr _ _ rfl (x.at_) (e.at_) rfl rfl false (HD.out) rfl⟩) ?_
  try go_frame
  refine takeH hS (i := 8) (d := 4) (v := .bool false) rfl rfl (by kernel_rfl) (by kernel_rfl) (by kernel_rfl) (fun _ _ _ h => h) (Or.inl ⟨by kernel_rfl, fun w' hw' => by kernel_rfl⟩) ?_
  refine wpAnyH_done (by kernel_rfl) ?_ _
  try go_frame
  have HF := Lib.hid hB0
  clear hS hB0
  generalize W.drew = w9 at *
  go_wp2_with fail
  go_ret
  exact ⟨rfl, HF.out⟩
set_option maxHeartbeats 4000000 in
set_option maxRecDepth 1000000 in
theorem psearch (n b1 b2 : Nat) (p : Nat → Bool) (w : World) (hsz : n ≤ 1000000)
    (hf : ∀ W, Below w.heap.size w W → ∀ i : Nat, i < n → Calls Try.prog 51 #[.int .i64 (i : Nat), .pointer (some ⟨b1, 0, none⟩), .pointer (some ⟨b2, 0, none⟩)] W fun e w' => e = .returned (.bool (p i)) ∧ Below W.heap.size W w')
    (hmono : ∀ a b, a ≤ b → b < n → p a = true → p b = true) :
    Calls Try.prog 50 #[.int .i64 (n : Nat), .func (.func 51) #[] #[.pointer (some ⟨b1, 0, none⟩), .pointer (some ⟨b2, 0, none⟩)]] w fun e w' => ∃ k : Nat, e = .returned (.int .i64 (k : Nat)) ∧ k ≤ n ∧ (∀ t, t < k → p t = false) ∧ (∀ t, k ≤ t → t < n → p t = true) ∧ Below w.heap.size w w' := by
  have HF := Lib.hid hf
  have M := Lib.hid hmono
  clear hf hmono
  go_enter Try.func50, Try.ntmps50
  go_wp2_with fail
  go_loopg [5, 6] n (fun kx s5 s6 wr => ∃ (lo hi : Nat), s5 = .int .i64 lo ∧ s6 = .int .i64 hi ∧ lo ≤ hi ∧ hi ≤ n ∧ hi - lo ≤ kx ∧ Below w.heap.size w wr ∧
    Hid ((∀ t, t < lo → p t = false) ∧ (∀ t, hi ≤ t → t < n → p t = true)))
  case atStart => exact ⟨0, n, rfl, rfl, Nat.zero_le _, Nat.le_refl _, by omega, Below.refl _ _, Lib.hid ⟨fun t ht => absurd ht (Nat.not_lt_zero _), fun t h1 h2 => by omega⟩⟩
  case round =>
    obtain ⟨lo, hi, rfl, rfl, hlh, hin, hg, hbr, I⟩ := hrel
    have Hbr := Lib.hid hbr
    clear hbr
    by_cases hlt : lo < hi
    · have hc := HF.out wr Hbr.out ((lo + hi) / 2) (by omega)
      rw [show (((lo + hi) / 2 : Nat) : Int) = ((lo : Int) + (hi : Int)) / 2 by omega] at hc
      cases hp : p ((lo + hi) / 2) <;> rw [hp] at hc
      · have HP := Lib.hid hp
        clear hp
        go_wp2_with fail
        refine hc.mono ?_
        rintro en w2 ⟨rfl, hb2⟩
        have Hb2 := Lib.hid (bel_next Hbr.out hb2)
        clear hb2 hc
        go_wp2_with fail
        go_roundg (hi - ((lo + hi) / 2 + 1))
        case measure => omega
        case rel =>
          have I2 : Hid ((∀ t, t < (lo + hi) / 2 + 1 → p t = false) ∧ (∀ t, hi ≤ t → t < n → p t = true)) := Lib.hid ⟨fun t ht => (by
            cases h : p t with
            | false => rfl
            | true => have := M.out t ((lo + hi) / 2) (by omega) (by omega) h; rw [HP.out] at this; cases this), I.out.2⟩
          exact ⟨(lo + hi) / 2 + 1, hi, by rw [show ((lo : Int) + (hi : Int)) / 2 + 1 = (((lo + hi) / 2 + 1 : Nat) : Int) by omega], rfl, by omega, hin, Nat.le_refl _, Hb2.out, I2⟩
      · have HP := Lib.hid hp
        clear hp
        go_wp2_with fail
        refine hc.mono ?_
        rintro en w2 ⟨rfl, hb2⟩
        have Hb2 := Lib.hid (bel_next Hbr.out hb2)
        clear hb2 hc
        go_wp2_with fail
        go_roundg ((lo + hi) / 2 - lo)
        case measure => omega
        case rel =>
          have I2 : Hid ((∀ t, t < lo → p t = false) ∧ (∀ t, (lo + hi) / 2 ≤ t → t < n → p t = true)) := Lib.hid ⟨I.out.1, fun t ht htn => M.out ((lo + hi) / 2) t ht htn HP.out⟩
          exact ⟨lo, (lo + hi) / 2, rfl, by rw [show ((lo : Int) + (hi : Int)) / 2 = (((lo + hi) / 2 : Nat) : Int) by omega], by omega, by omega, Nat.le_refl _, Hb2.out, I2⟩
    · obtain rfl : hi = lo := by omega
      go_wp2_with fail
      go_ret
      exact ⟨hi, rfl, hin, I.out.1, I.out.2, Hbr.out⟩
theorem ins_at (e : EvR) : ∀ (cs : List EvR) (k : Nat), k ≤ cs.length → (∀ t x, t < k → cs[t]? = some x → ¬ e.at_ < x.at_) → (∀ t x, k ≤ t → cs[t]? = some x → e.at_ < x.at_) → ins e cs = cs.take k ++ [e] ++ cs.drop k
  | [], k, _, _, _ => by simp [ins]
  | x :: cs, 0, _, _, h2 => by
    have := h2 0 x (Nat.le_refl _) rfl
    simp [ins, this]
  | x :: cs, k + 1, hk, h1, h2 => by
    have hx := h1 0 x (by omega) rfl
    have ih := ins_at e cs k (by simpa using hk) (fun t y ht hy => h1 (t + 1) y (by omega) hy) (fun t y ht hy => h2 (t + 1) y (by omega) hy)
    rw [show ins e (x :: cs) = x :: ins e cs by simp [ins, hx], ih]
    simp
theorem sort_at {cs : List EvR} (h : SortE cs) {a b : Nat} {x y : EvR} (hab : a ≤ b) (hx : cs[a]? = some x) (hy : cs[b]? = some y) : x.at_ ≤ y.at_ := by
  rcases Nat.lt_or_ge a b with h1 | h1
  · obtain ⟨ha, ha'⟩ := List.getElem?_eq_some_iff.1 hx
    obtain ⟨hb, hb'⟩ := List.getElem?_eq_some_iff.1 hy
    have := List.pairwise_iff_getElem.1 h a b ha hb h1
    rw [ha', hb'] at this
    exact this
  · obtain rfl : a = b := by omega
    rw [hx] at hy
    injection hy with hy
    rw [hy]
    exact Int.le_refl _
theorem plan_row {h cs : List EvR} {e : EvR} {k : Nat} (hk : k ≤ cs.length) : (h ++ cs).take (h.length + k) ++ [e] ++ (h ++ cs).drop (h.length + k) = h ++ (cs.take k ++ [e] ++ cs.drop k) := by
  rw [List.take_append, List.drop_append, List.take_of_length_le (by omega), List.drop_of_length_le (by omega), Nat.add_sub_cancel_left]
  simp [List.append_assoc]
end Go.Proofs.Ytajkajgnjcnolaa

