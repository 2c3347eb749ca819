import Derived.Test.YtajkajgnjcnolaaMp09
import Derived.Test.YtajkajgnjcnolaaMp01
namespace Go.Proofs.Ytajkajgnjcnolaa
open Go.RowKit
set_option linter.unusedVariables false
set_option linter.unnecessarySimpa false
set_option linter.unusedSimpArgs false
def c7N (z : R7z) (k : Int) : Nat := (z.safe + min (max k 0) ((z.ss.length : Int) - z.safe)).toNat
def c7S (z : R7z) (size : Int) (n : Nat) : Int := if z.state > 2 then z.state else if z.fin = true ∨ (n : Int) = size then 2 else if n = 0 then 0 else 1
def c7Z (z : R7z) (k size : Int) : R7z := { z with ss := z.ss.take (c7N z k), safe := (c7N z k : Int), state := c7S z size (c7N z k) }
theorem c7N_bd {z : R7z} (h1 : 0 ≤ z.safe) (h2 : z.safe ≤ (z.ss.length : Int)) (k : Int) : c7N z k ≤ z.ss.length ∧ ∀ j : Nat, j < z.ss.length → (((j : Int) < z.safe ∨ (j : Int) - z.safe < k) ↔ j < c7N z k) := by
  unfold c7N
  exact ⟨by omega, fun j hj => by omega⟩
theorem take_snoc_ss (ss : List (List Nat)) (j : Nat) (h : j < ss.length) : flat (ss.take (j + 1)) = flat (ss.take j) ++ bvals (ss.getD j []) := by
  rw [List.take_add_one, List.getElem?_eq_getElem h, flat_append, List.getD_eq_getElem?_getD, List.getElem?_eq_getElem h]
  exact congrArg _ (flat_one _)
theorem own_range7 {w : World} {lo n cap g : Nat} {ss : List (List Nat)} (h : w.ownsRow lo 33 64 (.slice (some ⟨g, 0, none⟩) n cap) n (flat ss)) (hn : ss.length = n) (hw : ∀ s ∈ ss, s.length = 64) (i : Nat) (hi : i < n) : w.rangeAt g (i * 64) (bvals (ss.getD i [])) := by
  intro j u hu
  have hi' : i < ss.length := by omega
  have hs := getD_64 hw i hi'
  have hj : j < 64 := by
    by_cases hj : j < (bvals (ss.getD i [])).length
    · rw [bvals_length, hs] at hj; exact hj
    · rw [List.getElem?_eq_none (by omega)] at hu; cases hu
  have hc := h.cellAt (i * 64 + j) (by omega)
  rw [hc, flat_at hw i hi' j hj]
  exact hu
theorem Try.info7S : (Try.prog.info? 33).map (·.size) = some 64 := by kernel_rfl
set_option maxRecDepth 100000 in
set_option maxHeartbeats 8000000 in
theorem cr7 {lo : Nat} {w : World} {u : Value} {z : R7z} (k size : Int) (hu : w.ownsRow lo 33 64 u z.ss.length (flat z.ss)) (h64 : ∀ s ∈ z.ss, s.length = 64) (hl : z.ss.length ≤ 1000) (s1 : 0 ≤ z.safe) (s2 : z.safe ≤ (z.ss.length : Int)) (hlo : lo ≤ w.heap.size) :
    Calls Try.prog 67 #[.agg (z7A z u), .int .i64 k, .int .i64 size] w fun e w' => ∃ u', e = .returned (.agg (z7A (c7Z z k size) u')) ∧ w'.ownsRow lo 33 64 u' (c7Z z k size).ss.length (flat (c7Z z k size).ss) ∧ Below w.heap.size w w' := by
  obtain ⟨a, cap, rfl⟩ := own_slice hu
  obtain ⟨_, k1, k2⟩ := ownK_cap hu
  unfold maxLen at k2
  have HS : Hid (Duo7 87 87 w (z7A z (.slice a z.ss.length cap)) z7Z ((w.alloc (Obj.cells (z7A z (.slice a z.ss.length cap)) 87)).alloc (Obj.cells #[.slice none 0 0, .int .i64 0, .int .i64 0, .bool false] 87))) := Lib.hid Duo7.start
  have HU := Lib.hid hu
  obtain ⟨n1, n2⟩ := c7N_bd s1 s2 k
  unfold c7Z
  generalize c7N z k = n at *
  generalize hst : c7S z size n = S
  unfold c7S at hst
  have Hst := Lib.hid hst
  have Hn2 := Lib.hid n2
  have Hlo := Lib.hid hlo
  have H64 := Lib.hid h64
  clear hst n2 hlo hu h64
  go_enter Try.func67, Try.ntmps67
  go_upto_region 1 with fail
  generalize ((w.alloc (Obj.cells (z7A z (.slice a z.ss.length cap)) 87)).alloc (Obj.cells #[.slice none 0 0, .int .i64 0, .int .i64 0, .bool false] 87)) = w0 at *
  go_wp2_with fail
  go_loopw [7, 8] (fun v i wr => ∃ j : Nat, j ≤ z.ss.length ∧ i = .int .i64 j ∧ Duo7 87 87 w (z7A z (.slice a z.ss.length cap)) z7Z wr ∧ wr.ownsRow lo 33 64 v (min j n) (flat (z.ss.take (min j n))) ∧ ∀ g, v.ownBlock = some g → w.heap.size + 1 < g) (fun _ i _ => z.ss.length - (intOf i).toNat)
  case atStart => exact ⟨0, Nat.zero_le _, rfl, HS.out, by rw [Nat.zero_min, List.take_zero]; exact ownK_nil _ _ _ _, fun g h => by simp [Value.ownBlock] at h⟩
  case round =>
    rename_i v0 _
    obtain ⟨j, hj, rfl, hS, hv, hvb⟩ := hrel
    have c0 : wr.cell? ⟨w.heap.size, 0, none⟩ = some (.slice a z.ss.length cap) := (hS.x.cell 0).trans rfl
    have c1 : wr.cell? ⟨w.heap.size, 1, none⟩ = some (.int .i64 z.safe) := (hS.x.cell 1).trans rfl
    have HSr := Lib.hid hS
    have Hvb := Lib.hid hvb
    clear hS hvb HS
    by_cases hlt : j < z.ss.length
    · obtain ⟨m1, m2⟩ := Hn2.out j hlt
      have HUr := Lib.hid (ownK_below HU.out HSr.out.b)
      obtain ⟨g, rfl, _, _⟩ := ownK_form HUr.out (by omega)
      have HC := Lib.hid (own_range7 HUr.out rfl H64.out j hlt)
      have H6 := Lib.hid (getD_64 H64.out j hlt)
      have Hts := Lib.hid (take_snoc_ss z.ss j hlt)
      generalize z.ss.getD j [] = Y at *
      by_cases hjn : j < n
      · rw [show min j n = j by omega] at hv
        have Hv := Lib.hid hv
        clear hv
        have HVb := Lib.hid (ownK_below Hv.out (below_alloc wr (Obj.cells (bA Y) 33)))
        have HSb := Lib.hid (HSr.out.below (below_alloc wr (Obj.cells (bA Y) 33)))
        by_cases hjs : (j : Int) < z.safe
        · clear m1 m2
          go_wp2_with (first | (refine wpl_load_mid (by rfl) _ _ rfl g (j * 64) rfl Y _ HC.out Try.underlying33 rfl (by rw [bvals_length, H6.out]; exact Try.info7S) ?_; go_frame) | (refine wpl_buildK el7S (by decide) rfl _ rfl (bA Y) rfl (by rw [bA_size, H6.out]) ?_; go_frame) | (refine wpl_appendK el7S rfl (.tmp 28) (.tmp 34) rfl lo _ j (flat (z.ss.take j)) rfl HVb.out (some ⟨wr.heap.size, 0, none⟩) 1 1 (bvals Y) rfl (by rw [bvals_length, H6.out]) (fun e => by cases e) (src_row _ (bA Y)) (bvals_one Y) (by omega) (by have := Hlo.out; have := HSb.out.b.size; omega) ?_; intro v2 w3 hown hgr hv2; have HS3 := Lib.hid (HSb.out.grown hgr (fun G0 e => Hvb.out G0 e)); have Hv3 : Hid (∀ G0, v2.ownBlock = some G0 → w.heap.size + 1 < G0) := Lib.hid (fun G0 hg => by rcases hv2 with h | h; (rw [h] at hg; exact Hvb.out G0 hg); (rw [h] at hg; injection hg with hg; have := HSb.out.g.lt; omega)); rw [← Hts.out] at hown; have Hown3 := Lib.hid hown; clear hown hgr hv2; go_frame))
          go_roundw
          case rel => exact ⟨j + 1, by omega, by go_num, HS3.out, by rw [show min (j + 1) n = j + 1 by omega]; exact Hown3.out, Hv3.out⟩
          case measure => simp [intOf]; omega
        · have hjk : (j : Int) - z.safe < k := by rcases m2 hjn with h | h; (exact absurd h hjs); (exact h)
          clear m1 m2
          go_wp2_with (first | (refine wpl_load_mid (by rfl) _ _ rfl g (j * 64) rfl Y _ HC.out Try.underlying33 rfl (by rw [bvals_length, H6.out]; exact Try.info7S) ?_; go_frame) | (refine wpl_buildK el7S (by decide) rfl _ rfl (bA Y) rfl (by rw [bA_size, H6.out]) ?_; go_frame) | (refine wpl_appendK el7S rfl (.tmp 28) (.tmp 34) rfl lo _ j (flat (z.ss.take j)) rfl HVb.out (some ⟨wr.heap.size, 0, none⟩) 1 1 (bvals Y) rfl (by rw [bvals_length, H6.out]) (fun e => by cases e) (src_row _ (bA Y)) (bvals_one Y) (by omega) (by have := Hlo.out; have := HSb.out.b.size; omega) ?_; intro v2 w3 hown hgr hv2; have HS3 := Lib.hid (HSb.out.grown hgr (fun G0 e => Hvb.out G0 e)); have Hv3 : Hid (∀ G0, v2.ownBlock = some G0 → w.heap.size + 1 < G0) := Lib.hid (fun G0 hg => by rcases hv2 with h | h; (rw [h] at hg; exact Hvb.out G0 hg); (rw [h] at hg; injection hg with hg; have := HSb.out.g.lt; omega)); rw [← Hts.out] at hown; have Hown3 := Lib.hid hown; clear hown hgr hv2; go_frame))
          go_roundw
          case rel => exact ⟨j + 1, by omega, by go_num, HS3.out, by rw [show min (j + 1) n = j + 1 by omega]; exact Hown3.out, Hv3.out⟩
          case measure => simp [intOf]; omega
      · have hjs : z.safe ≤ (j : Int) := by
          by_cases h : (j : Int) < z.safe
          · exact absurd (m1 (.inl h)) hjn
          · omega
        have hjk : k ≤ (j : Int) - z.safe := by
          by_cases h : (j : Int) - z.safe < k
          · exact absurd (m1 (.inr h)) hjn
          · omega
        have Hv := Lib.hid hv
        clear m1 m2 hv
        go_wp2_with fail
        go_roundw
        case rel => exact ⟨j + 1, by omega, by go_num, HSr.out, by rw [show min (j + 1) n = min j n by omega]; exact Hv.out, Hvb.out⟩
        case measure => simp [intOf]; omega
    · obtain rfl : j = z.ss.length := by omega
      rw [show min z.ss.length n = n by omega] at hv
      obtain ⟨a1, cp, rfl⟩ := own_slice hv
      have hlen : (z.ss.take n).length = n := by simp; omega
      have Hv := Lib.hid hv
      have Hlen := Lib.hid hlen
      have f0 := HSr.out.x.frozen 0
      have HKr := Lib.hid (Kept.refl (fun k => k = w.heap.size ∨ k = w.heap.size + 1) wr)
      clear hv hlen
      go_upto_region 8 with fail
      have HS1 : Hid (Duo7 87 87 w (z7A { z with ss := z.ss.take n } (.slice a1 n cp)) z7Z (wr.setCell ⟨w.heap.size, 0, none⟩ (.slice a1 n cp))) := Lib.hid (HSr.out.set 0 _)
      have HK1 := Lib.hid (HKr.out.setCell (p := ⟨w.heap.size, 0, none⟩) (.inl rfl) (.slice a1 n cp))
      clear c0 c1 f0 HKr HSr
      generalize wr.setCell ⟨w.heap.size, 0, none⟩ (.slice a1 n cp) = w1 at *
      have c1 := (HS1.out.x.cell 1).trans (show (z7A { z with ss := z.ss.take n } (.slice a1 n cp))[1]? = some (.int .i64 z.safe) from rfl)
      have f1 := HS1.out.x.frozen 1
      go_upto_region 9 with fail
      have HS2 : Hid (Duo7 87 87 w (z7A { z with ss := z.ss.take n, safe := (n : Int), state := z.state } (.slice a1 n cp)) z7Z (w1.setCell ⟨w.heap.size, 1, none⟩ (.int .i64 (n : Nat)))) := Lib.hid (HS1.out.set 1 _)
      have HK2 := Lib.hid (HK1.out.setCell (p := ⟨w.heap.size, 1, none⟩) (.inl rfl) (.int .i64 (n : Nat)))
      clear c1 f1 HS1 HK1
      generalize w1.setCell ⟨w.heap.size, 1, none⟩ (.int .i64 (n : Nat)) = w2 at *
      have c2 := (HS2.out.x.cell 2).trans (show (z7A { z with ss := z.ss.take n, safe := (n : Int), state := z.state } (.slice a1 n cp))[2]? = some (.int .i64 z.state) from rfl)
      by_cases hs2 : z.state > 2
      · obtain rfl : z.state = S := (if_pos hs2).symm.trans Hst.out
        go_wp2_with (first | (refine wpl_load rfl _ rfl (w.heap.size) rfl _ _ _ (HS2.out.x) Try.underlying87 rfl Try.info7Z ?_; go_frame) | (refine wpl_store rfl _ _ rfl (w.heap.size + 1) (z7A { z with ss := z.ss.take n, safe := (n : Int), state := z.state } (.slice a1 n cp)) rfl rfl _ _ HS2.out.g Try.info7Z rfl (z7A_one _ _ _ _) ?_; intro w9 hSg hKg; have HSg := Lib.hid hSg; have HKg := Lib.hid hKg; clear hSg hKg; go_frame))
        have HF := Lib.hid (HS2.out.out HSg.out HKg.out)
        exact bodyPost_ret (v := .agg (z7A { z with ss := z.ss.take n, safe := (n : Int), state := z.state } (.slice a1 n cp))) (results_cell_row Try.results67 _ _ (w.heap.size + 1) 87 _ (0, 0) _ rfl HF.out.g Try.underlying87 rfl Try.info7Z) rfl ⟨_, rfl, by first | exact own_kept Hv.out (HK2.out.trans (HKg.out.mono (fun _ _ e => .inr e))) (fun k hk e => by have := Hvb.out k hk; omega) | (show World.ownsRow _ _ _ _ _ (z.ss.take n).length _; rw [Hlen.out]; exact own_kept Hv.out (HK2.out.trans (HKg.out.mono (fun _ _ e => .inr e))) (fun k hk e => by have := Hvb.out k hk; omega)), HF.out.b⟩
      · have hs2' : z.state ≤ 2 := by omega
        have Hs2 := Lib.hid hs2
        clear hs2 c2
        have c2 := (HS2.out.x.cell 2).trans (show (z7A { z with ss := z.ss.take n, safe := (n : Int), state := z.state } (.slice a1 n cp))[2]? = some (.int .i64 z.state) from rfl)
        have f2 := HS2.out.x.frozen 2
        go_upto_region 12 with fail
        have HS3 : Hid (Duo7 87 87 w (z7A { z with ss := z.ss.take n, safe := (n : Int), state := 1 } (.slice a1 n cp)) z7Z (w2.setCell ⟨w.heap.size, 2, none⟩ (.int .i64 1))) := Lib.hid (HS2.out.set 2 _)
        have HK3 := Lib.hid (HK2.out.setCell (p := ⟨w.heap.size, 2, none⟩) (.inl rfl) (.int .i64 1))
        clear c2 f2 HS2 HK2
        generalize w2.setCell ⟨w.heap.size, 2, none⟩ (.int .i64 1) = w3 at *
        by_cases hn0 : n = 0
        · have Hn0 := Lib.hid hn0
          have hd0 : ((n : Int) == 0) = true := by simp [hn0]
          clear hn0
          have c2 := (HS3.out.x.cell 2).trans (show (z7A { z with ss := z.ss.take n, safe := (n : Int), state := 1 } (.slice a1 n cp))[2]? = some (.int .i64 1) from rfl)
          have f2 := HS3.out.x.frozen 2
          go_upto_region 14 with fail
          have HS4 : Hid (Duo7 87 87 w (z7A { z with ss := z.ss.take n, safe := (n : Int), state := 0 } (.slice a1 n cp)) z7Z (w3.setCell ⟨w.heap.size, 2, none⟩ (.int .i64 0))) := Lib.hid (HS3.out.set 2 _)
          have HK4 := Lib.hid (HK3.out.setCell (p := ⟨w.heap.size, 2, none⟩) (.inl rfl) (.int .i64 0))
          clear c2 f2 HS3 HK3 hd0
          generalize w3.setCell ⟨w.heap.size, 2, none⟩ (.int .i64 0) = w4 at *
          have c3 := (HS4.out.x.cell 3).trans (show (z7A { z with ss := z.ss.take n, safe := (n : Int), state := 0 } (.slice a1 n cp))[3]? = some (.bool z.fin) from rfl)
          rcases Bool.eq_false_or_eq_true z.fin with hf | hf
          ·
            obtain rfl : 2 = S := ((if_neg Hs2.out).trans (if_pos (.inl hf))).symm.trans Hst.out
            have c3' : w4.cell? ⟨w.heap.size, 3, none⟩ = some (.bool true) := c3.trans (congrArg (fun t => some (Value.bool t)) hf)
            clear c3 hf
            have c2 := (HS4.out.x.cell 2).trans (show (z7A { z with ss := z.ss.take n, safe := (n : Int), state := 0 } (.slice a1 n cp))[2]? = some (.int .i64 0) from rfl)
            have f2 := HS4.out.x.frozen 2
            go_upto_region 16 with fail
            have HS5 : Hid (Duo7 87 87 w (z7A { z with ss := z.ss.take n, safe := (n : Int), state := 2 } (.slice a1 n cp)) z7Z (w4.setCell ⟨w.heap.size, 2, none⟩ (.int .i64 2))) := Lib.hid (HS4.out.set 2 _)
            have HK5 := Lib.hid (HK4.out.setCell (p := ⟨w.heap.size, 2, none⟩) (.inl rfl) (.int .i64 2))
            clear c2 f2 c3'
            generalize w4.setCell ⟨w.heap.size, 2, none⟩ (.int .i64 2) = w5 at *
            go_wp2_with (first | (refine wpl_load rfl _ rfl (w.heap.size) rfl _ _ _ (HS5.out.x) Try.underlying87 rfl Try.info7Z ?_; go_frame) | (refine wpl_store rfl _ _ rfl (w.heap.size + 1) (z7A { z with ss := z.ss.take n, safe := (n : Int), state := 2 } (.slice a1 n cp)) rfl rfl _ _ HS5.out.g Try.info7Z rfl (z7A_one _ _ _ _) ?_; intro w9 hSg hKg; have HSg := Lib.hid hSg; have HKg := Lib.hid hKg; clear hSg hKg; go_frame))
            have HF := Lib.hid (HS5.out.out HSg.out HKg.out)
            exact bodyPost_ret (v := .agg (z7A { z with ss := z.ss.take n, safe := (n : Int), state := 2 } (.slice a1 n cp))) (results_cell_row Try.results67 _ _ (w.heap.size + 1) 87 _ (0, 0) _ rfl HF.out.g Try.underlying87 rfl Try.info7Z) rfl ⟨_, rfl, by first | exact own_kept Hv.out (HK5.out.trans (HKg.out.mono (fun _ _ e => .inr e))) (fun k hk e => by have := Hvb.out k hk; omega) | (show World.ownsRow _ _ _ _ _ (z.ss.take n).length _; rw [Hlen.out]; exact own_kept Hv.out (HK5.out.trans (HKg.out.mono (fun _ _ e => .inr e))) (fun k hk e => by have := Hvb.out k hk; omega)), HF.out.b⟩
          ·
            have c3' : w4.cell? ⟨w.heap.size, 3, none⟩ = some (.bool false) := c3.trans (congrArg (fun t => some (Value.bool t)) hf)
            have Hf := Lib.hid hf
            clear c3 hf
            by_cases he : (n : Int) = size
            · obtain rfl : 2 = S := ((if_neg Hs2.out).trans (if_pos (.inr he))).symm.trans Hst.out
              have hd : ((n : Int) == size) = true := by simpa using he
              clear he
              have c2 := (HS4.out.x.cell 2).trans (show (z7A { z with ss := z.ss.take n, safe := (n : Int), state := 0 } (.slice a1 n cp))[2]? = some (.int .i64 0) from rfl)
              have f2 := HS4.out.x.frozen 2
              go_upto_region 16 with fail
              have HS5 : Hid (Duo7 87 87 w (z7A { z with ss := z.ss.take n, safe := (n : Int), state := 2 } (.slice a1 n cp)) z7Z (w4.setCell ⟨w.heap.size, 2, none⟩ (.int .i64 2))) := Lib.hid (HS4.out.set 2 _)
              have HK5 := Lib.hid (HK4.out.setCell (p := ⟨w.heap.size, 2, none⟩) (.inl rfl) (.int .i64 2))
              clear c2 f2 c3' hd
              generalize w4.setCell ⟨w.heap.size, 2, none⟩ (.int .i64 2) = w5 at *
              go_wp2_with (first | (refine wpl_load rfl _ rfl (w.heap.size) rfl _ _ _ (HS5.out.x) Try.underlying87 rfl Try.info7Z ?_; go_frame) | (refine wpl_store rfl _ _ rfl (w.heap.size + 1) (z7A { z with ss := z.ss.take n, safe := (n : Int), state := 2 } (.slice a1 n cp)) rfl rfl _ _ HS5.out.g Try.info7Z rfl (z7A_one _ _ _ _) ?_; intro w9 hSg hKg; have HSg := Lib.hid hSg; have HKg := Lib.hid hKg; clear hSg hKg; go_frame))
              have HF := Lib.hid (HS5.out.out HSg.out HKg.out)
              exact bodyPost_ret (v := .agg (z7A { z with ss := z.ss.take n, safe := (n : Int), state := 2 } (.slice a1 n cp))) (results_cell_row Try.results67 _ _ (w.heap.size + 1) 87 _ (0, 0) _ rfl HF.out.g Try.underlying87 rfl Try.info7Z) rfl ⟨_, rfl, by first | exact own_kept Hv.out (HK5.out.trans (HKg.out.mono (fun _ _ e => .inr e))) (fun k hk e => by have := Hvb.out k hk; omega) | (show World.ownsRow _ _ _ _ _ (z.ss.take n).length _; rw [Hlen.out]; exact own_kept Hv.out (HK5.out.trans (HKg.out.mono (fun _ _ e => .inr e))) (fun k hk e => by have := Hvb.out k hk; omega)), HF.out.b⟩
            · obtain rfl : 0 = S := ((if_neg Hs2.out).trans ((if_neg (fun h => h.elim (fun h => by rw [Hf.out] at h; cases h) he)).trans (if_pos Hn0.out))).symm.trans Hst.out
              have hd : ((n : Int) == size) = false := by simpa using he
              clear he
              go_wp2_with (first | (refine wpl_load rfl _ rfl (w.heap.size) rfl _ _ _ (HS4.out.x) Try.underlying87 rfl Try.info7Z ?_; go_frame) | (refine wpl_store rfl _ _ rfl (w.heap.size + 1) (z7A { z with ss := z.ss.take n, safe := (n : Int), state := 0 } (.slice a1 n cp)) rfl rfl _ _ HS4.out.g Try.info7Z rfl (z7A_one _ _ _ _) ?_; intro w9 hSg hKg; have HSg := Lib.hid hSg; have HKg := Lib.hid hKg; clear hSg hKg; go_frame))
              have HF := Lib.hid (HS4.out.out HSg.out HKg.out)
              exact bodyPost_ret (v := .agg (z7A { z with ss := z.ss.take n, safe := (n : Int), state := 0 } (.slice a1 n cp))) (results_cell_row Try.results67 _ _ (w.heap.size + 1) 87 _ (0, 0) _ rfl HF.out.g Try.underlying87 rfl Try.info7Z) rfl ⟨_, rfl, by first | exact own_kept Hv.out (HK4.out.trans (HKg.out.mono (fun _ _ e => .inr e))) (fun k hk e => by have := Hvb.out k hk; omega) | (show World.ownsRow _ _ _ _ _ (z.ss.take n).length _; rw [Hlen.out]; exact own_kept Hv.out (HK4.out.trans (HKg.out.mono (fun _ _ e => .inr e))) (fun k hk e => by have := Hvb.out k hk; omega)), HF.out.b⟩
        · have Hn0 := Lib.hid hn0
          have hd0 : ((n : Int) == 0) = false := by simp [hn0]
          clear hn0
          go_upto_region 14 with fail
          clear hd0
          have c3 := (HS3.out.x.cell 3).trans (show (z7A { z with ss := z.ss.take n, safe := (n : Int), state := 1 } (.slice a1 n cp))[3]? = some (.bool z.fin) from rfl)
          rcases Bool.eq_false_or_eq_true z.fin with hf | hf
          ·
            obtain rfl : 2 = S := ((if_neg Hs2.out).trans (if_pos (.inl hf))).symm.trans Hst.out
            have c3' : w3.cell? ⟨w.heap.size, 3, none⟩ = some (.bool true) := c3.trans (congrArg (fun t => some (Value.bool t)) hf)
            clear c3 hf
            have c2 := (HS3.out.x.cell 2).trans (show (z7A { z with ss := z.ss.take n, safe := (n : Int), state := 1 } (.slice a1 n cp))[2]? = some (.int .i64 1) from rfl)
            have f2 := HS3.out.x.frozen 2
            go_upto_region 16 with fail
            have HS5 : Hid (Duo7 87 87 w (z7A { z with ss := z.ss.take n, safe := (n : Int), state := 2 } (.slice a1 n cp)) z7Z (w3.setCell ⟨w.heap.size, 2, none⟩ (.int .i64 2))) := Lib.hid (HS3.out.set 2 _)
            have HK5 := Lib.hid (HK3.out.setCell (p := ⟨w.heap.size, 2, none⟩) (.inl rfl) (.int .i64 2))
            clear c2 f2 c3'
            generalize w3.setCell ⟨w.heap.size, 2, none⟩ (.int .i64 2) = w5 at *
            go_wp2_with (first | (refine wpl_load rfl _ rfl (w.heap.size) rfl _ _ _ (HS5.out.x) Try.underlying87 rfl Try.info7Z ?_; go_frame) | (refine wpl_store rfl _ _ rfl (w.heap.size + 1) (z7A { z with ss := z.ss.take n, safe := (n : Int), state := 2 } (.slice a1 n cp)) rfl rfl _ _ HS5.out.g Try.info7Z rfl (z7A_one _ _ _ _) ?_; intro w9 hSg hKg; have HSg := Lib.hid hSg; have HKg := Lib.hid hKg; clear hSg hKg; go_frame))
            have HF := Lib.hid (HS5.out.out HSg.out HKg.out)
            exact bodyPost_ret (v := .agg (z7A { z with ss := z.ss.take n, safe := (n : Int), state := 2 } (.slice a1 n cp))) (results_cell_row Try.results67 _ _ (w.heap.size + 1) 87 _ (0, 0) _ rfl HF.out.g Try.underlying87 rfl Try.info7Z) rfl ⟨_, rfl, by first | exact own_kept Hv.out (HK5.out.trans (HKg.out.mono (fun _ _ e => .inr e))) (fun k hk e => by have := Hvb.out k hk; omega) | (show World.ownsRow _ _ _ _ _ (z.ss.take n).length _; rw [Hlen.out]; exact own_kept Hv.out (HK5.out.trans (HKg.out.mono (fun _ _ e => .inr e))) (fun k hk e => by have := Hvb.out k hk; omega)), HF.out.b⟩
          ·
            have c3' : w3.cell? ⟨w.heap.size, 3, none⟩ = some (.bool false) := c3.trans (congrArg (fun t => some (Value.bool t)) hf)
            have Hf := Lib.hid hf
            clear c3 hf
            by_cases he : (n : Int) = size
            · obtain rfl : 2 = S := ((if_neg Hs2.out).trans (if_pos (.inr he))).symm.trans Hst.out
              have hd : ((n : Int) == size) = true := by simpa using he
              clear he
              have c2 := (HS3.out.x.cell 2).trans (show (z7A { z with ss := z.ss.take n, safe := (n : Int), state := 1 } (.slice a1 n cp))[2]? = some (.int .i64 1) from rfl)
              have f2 := HS3.out.x.frozen 2
              go_upto_region 16 with fail
              have HS5 : Hid (Duo7 87 87 w (z7A { z with ss := z.ss.take n, safe := (n : Int), state := 2 } (.slice a1 n cp)) z7Z (w3.setCell ⟨w.heap.size, 2, none⟩ (.int .i64 2))) := Lib.hid (HS3.out.set 2 _)
              have HK5 := Lib.hid (HK3.out.setCell (p := ⟨w.heap.size, 2, none⟩) (.inl rfl) (.int .i64 2))
              clear c2 f2 c3' hd
              generalize w3.setCell ⟨w.heap.size, 2, none⟩ (.int .i64 2) = w5 at *
              go_wp2_with (first | (refine wpl_load rfl _ rfl (w.heap.size) rfl _ _ _ (HS5.out.x) Try.underlying87 rfl Try.info7Z ?_; go_frame) | (refine wpl_store rfl _ _ rfl (w.heap.size + 1) (z7A { z with ss := z.ss.take n, safe := (n : Int), state := 2 } (.slice a1 n cp)) rfl rfl _ _ HS5.out.g Try.info7Z rfl (z7A_one _ _ _ _) ?_; intro w9 hSg hKg; have HSg := Lib.hid hSg; have HKg := Lib.hid hKg; clear hSg hKg; go_frame))
              have HF := Lib.hid (HS5.out.out HSg.out HKg.out)
              exact bodyPost_ret (v := .agg (z7A { z with ss := z.ss.take n, safe := (n : Int), state := 2 } (.slice a1 n cp))) (results_cell_row Try.results67 _ _ (w.heap.size + 1) 87 _ (0, 0) _ rfl HF.out.g Try.underlying87 rfl Try.info7Z) rfl ⟨_, rfl, by first | exact own_kept Hv.out (HK5.out.trans (HKg.out.mono (fun _ _ e => .inr e))) (fun k hk e => by have := Hvb.out k hk; omega) | (show World.ownsRow _ _ _ _ _ (z.ss.take n).length _; rw [Hlen.out]; exact own_kept Hv.out (HK5.out.trans (HKg.out.mono (fun _ _ e => .inr e))) (fun k hk e => by have := Hvb.out k hk; omega)), HF.out.b⟩
            · obtain rfl : 1 = S := ((if_neg Hs2.out).trans ((if_neg (fun h => h.elim (fun h => by rw [Hf.out] at h; cases h) he)).trans (if_neg Hn0.out))).symm.trans Hst.out
              have hd : ((n : Int) == size) = false := by simpa using he
              clear he
              go_wp2_with (first | (refine wpl_load rfl _ rfl (w.heap.size) rfl _ _ _ (HS3.out.x) Try.underlying87 rfl Try.info7Z ?_; go_frame) | (refine wpl_store rfl _ _ rfl (w.heap.size + 1) (z7A { z with ss := z.ss.take n, safe := (n : Int), state := 1 } (.slice a1 n cp)) rfl rfl _ _ HS3.out.g Try.info7Z rfl (z7A_one _ _ _ _) ?_; intro w9 hSg hKg; have HSg := Lib.hid hSg; have HKg := Lib.hid hKg; clear hSg hKg; go_frame))
              have HF := Lib.hid (HS3.out.out HSg.out HKg.out)
              exact bodyPost_ret (v := .agg (z7A { z with ss := z.ss.take n, safe := (n : Int), state := 1 } (.slice a1 n cp))) (results_cell_row Try.results67 _ _ (w.heap.size + 1) 87 _ (0, 0) _ rfl HF.out.g Try.underlying87 rfl Try.info7Z) rfl ⟨_, rfl, by first | exact own_kept Hv.out (HK3.out.trans (HKg.out.mono (fun _ _ e => .inr e))) (fun k hk e => by have := Hvb.out k hk; omega) | (show World.ownsRow _ _ _ _ _ (z.ss.take n).length _; rw [Hlen.out]; exact own_kept Hv.out (HK3.out.trans (HKg.out.mono (fun _ _ e => .inr e))) (fun k hk e => by have := Hvb.out k hk; omega)), HF.out.b⟩
end Go.Proofs.Ytajkajgnjcnolaa

namespace Go.Proofs.Ytajkajgnjcnolaa
open Go.RowKit
set_option linter.unusedVariables false
def waits (md : Region.Mode) (ops : Array Oper) : Nat → List Nat → Bool
  | _, [] => true
  | i, c :: r => ((ops[c]?).any fun o => o.after.any fun e => Region.binds md e && (e.on == i)) && waits md ops c r
section
variable {P : Program} {md : Region.Mode} {ops : Array Oper} {Q : Exit → Act → World → Prop} {S : World → Prop} {L : Nat}
def wpAnyL (P : Program) (md : Region.Mode) (ops : Array Oper) (Q : Exit → Act → World → Prop) (S : World → Prop) (L : Nat) : Nat → Array Bool → Act → World → Prop
  | 0, listed, a, w => Region.ready md ops listed = [] ∧ Q .normal a w
  | fuel + 1, listed, a, w =>
    (Region.ready md ops listed = [] → Q .normal a w) ∧
    ∀ i ∈ Region.ready md ops listed, wpOp P ops Q i (fun a' w' => (i ≠ L → S w') ∧ wpAnyL P md ops Q S L fuel (listed.setIfInBounds i true) a' w') a w
theorem wpAny_of_L : ∀ (fuel : Nat) (listed : Array Bool) (a : Act) (w : World), wpAnyL P md ops Q S L fuel listed a w → wpAny P md ops Q fuel listed a w
  | 0, _, _, _, h => h
  | fuel + 1, _, _, _, h => ⟨h.1, fun i hi => wpOp_mono (fun a' w' h' => wpAny_of_L fuel _ a' w' h'.2) (h.2 i hi)⟩
theorem waits_not {listed : Array Bool} {j : Nat} : ∀ {cs : List Nat} {i : Nat}, waits md ops i cs = true → (∀ c ∈ i :: cs, listed.getD c false = false) → j ∈ Region.ready md ops listed → j ∉ cs
  | [], _, _, _, _ => by simp
  | c :: r, i, hch, hu, hj => by
    intro hm
    simp only [waits, Bool.and_eq_true] at hch
    obtain ⟨h1, h2⟩ := hch
    rcases List.mem_cons.1 hm with rfl | hm
    · obtain ⟨_, oj, hoj, hall⟩ := mem_ready.1 hj
      rw [hoj] at h1
      simp only [Option.any_some, Array.any_eq_true', Bool.and_eq_true, beq_iff_eq] at h1
      obtain ⟨e, he, hb, hon⟩ := h1
      have h3 := hall e he hb
      rw [hon, hu i (by simp)] at h3
      cases h3
    · exact waits_not h2 (fun x hx => hu x (by simp only [List.mem_cons] at hx ⊢; exact .inr hx)) hj hm
theorem wpAnyL_first {i : Nat} {oi : Oper} {v : Value} {cs : List Nat} (hi : ops[i]? = some oi) (hsel : ∀ (j : Nat) (o : Oper) ks b, ops[j]? = some o → o.op ≠ .select ks b)
    (hQ : ∀ c a w, Q (.panic c) (a.put oi.dst v) w → Q (.panic c) a w) (hL : L ∈ cs) (hLi : i ≠ L) (hch : waits md ops i cs = true) (hii : i ∉ cs) :
    ∀ (fuel : Nat) (listed : Array Bool) (a : Act) (w : World), (∀ c ∈ i :: cs, listed.getD c false = false) →
      (∀ j oj, ops[j]? = some oj → j ≠ i → listed.getD j true = false → (∀ e ∈ oj.after, Region.binds md e = true → e.on ≠ i) → oi.apart ops oj = true) →
      i ∈ Region.ready md ops listed → YieldsIf P ops S oi v a → S w →
      wpAnyL P md ops Q S L fuel (listed.setIfInBounds i true) (a.put oi.dst v) w → wpAnyL P md ops Q S L (fuel + 1) listed a w := by
  intro fuel
  induction fuel with
  | zero =>
    intro listed a w _ _ hr hy hS H
    refine ⟨fun h => absurd hr (by rw [h]; simp), fun j hj => ?_⟩
    by_cases e : j = i
    · subst e
      exact hy.wpOp hi hS ⟨fun _ => hS, H⟩
    · have := ready_mono hj e
      rw [H.1] at this
      cases this
  | succ fuel ih =>
    intro listed a w hu hfree hr hy hS H
    refine ⟨fun h => absurd hr (by rw [h]; simp), fun j hj => ?_⟩
    by_cases e : j = i
    · subst e
      exact hy.wpOp hi hS ⟨fun _ => hS, H⟩
    · have hjc : j ∉ cs := waits_not hch hu hj
      have hjL : j ≠ L := fun h => hjc (h ▸ hL)
      obtain ⟨hjun, oj, hoj, hall⟩ := mem_ready.1 hj
      have hno : ∀ d ∈ oj.after, Region.binds md d = true → d.on ≠ i := fun d hd hb heq => by
        have h1 := hall d hd hb
        rw [heq, hu i (by simp)] at h1
        cases h1
      have h2 := wpOp_putIf hoj (hfree j oj hoj e hjun hno) (fun ks b => hsel i oi ks b hi) (fun ks b => hsel j oj ks b hoj) hQ hy (H.2 j (ready_mono hj e))
      refine wpOp_mono (fun a' w' h3 => ⟨h3.2.1, ih (listed.setIfInBounds j true) a' w' (fun c hc => ?_) (fun k ok hk hki hun hn => ?_) (ready_mono hr (Ne.symm e)) h3.1 (h3.2.1 hjL) ?_⟩) h2
      · have hcj : j ≠ c := fun h => by
          subst h
          rcases List.mem_cons.1 hc with h | h
          · exact e h
          · exact hjc h
        rw [getD_set_ne false hcj]
        exact hu c hc
      · refine hfree k ok hk hki ?_ hn
        by_cases hjk : j = k
        · subst hjk; exact hjun
        · rw [getD_set_ne true hjk] at hun; exact hun
      · rw [Array.setIfInBounds_comm _ _ e]
        exact h3.2.2
theorem takeL {i d : Nat} {oi : Oper} {v : Value} {fuel : Nat} {listed : Array Bool} {a : Act} {w : World} (cs : List Nat) (hS : S w) (hi : ops[i]? = some oi) (hd : oi.dst = some d)
    (hs : Region.noSelect ops = true) (hf : Region.free md ops listed i = true) (hr : (Region.ready md ops listed).contains i = true)
    (hc : (cs.contains L && (i != L) && waits md ops i cs && !(cs.contains i) && ((i :: cs).all fun c => !(listed.getD c false))) = true)
    (hQ : ∀ c a w, Q (.panic c) (a.put oi.dst v) w → Q (.panic c) a w) (hy : YieldsIf P ops S oi v a)
    (h : wpAnyL P md ops Q S L fuel (listed.setIfInBounds i true) (a.put (some d) v) w) : wpAnyL P md ops Q S L (fuel + 1) listed a w := by
  simp only [Bool.and_eq_true, List.contains_iff_mem, bne_iff_ne, Bool.not_eq_true', List.all_eq_true] at hc
  obtain ⟨⟨⟨⟨h1, h2⟩, h3⟩, h4⟩, h5⟩ := hc
  refine wpAnyL_first hi (Region.noSelect_spec hs) hQ h1 h2 h3 (fun h => ?_) fuel listed a w h5 (Region.free_spec hi hf) (by simpa using hr) hy hS (by rw [hd]; exact h)
  rw [List.contains_iff_mem.2 h] at h4
  cases h4
theorem nextL {i : Nat} {o : Oper} {fuel : Nat} {listed : Array Bool} {a : Act} {w : World} (ho : ops[i]? = some o)
    (hr : Region.ready md ops listed = [i]) (hw : Region.wanted o (yielded ops a.tmps) = true)
    (h : ∀ K' : Act → World → Prop, Shut (∀ a w, (i ≠ L → S w) ∧ wpAnyL P md ops Q S L fuel (listed.setIfInBounds i true) a w → K' a w) → Oper.wp P o a w K' Q) : wpAnyL P md ops Q S L (fuel + 1) listed a w :=
  ⟨fun h0 => absurd (hr ▸ h0) (by simp), fun j hj => by
    obtain rfl : j = i := by rw [hr] at hj; simpa using hj
    exact wpOp_of ho hw h⟩
theorem wpAnyL_done {listed : Array Bool} {a : Act} {w : World} (hr : Region.ready md ops listed = []) (h : Q .normal a w) : ∀ fuel, wpAnyL P md ops Q S L fuel listed a w
  | 0 => ⟨hr, h⟩
  | _ + 1 => ⟨fun _ => h, by rw [hr]; simp⟩
theorem wp_regionL {id : Nat} {a : Act} {w : World} (L : Nat) (hm : P.follows .mixedOrders = true) (h : wpAnyL P .any ops Q S L ops.size (Array.replicate ops.size false) a w.drew) : (Code.region id ops true).wp P Q a w :=
  wp_region_any hm (wpAny_of_L _ _ _ _ h)
end
end Go.Proofs.Ytajkajgnjcnolaa

