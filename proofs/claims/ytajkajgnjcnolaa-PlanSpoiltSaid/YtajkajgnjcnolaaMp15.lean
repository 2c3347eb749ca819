import Derived.Test.YtajkajgnjcnolaaMp11
import Derived.Test.YtajkajgnjcnolaaMp09
namespace Go.Proofs.Ytajkajgnjcnolaa
open Go.RowKit
set_option linter.unusedVariables false
set_option linter.unnecessarySimpa false
set_option linter.unusedSimpArgs false
structure RvI (f : Nat → R7z → R7z) (l l' : List (R7z × Value)) (j : Nat) : Prop where
  len : l'.length = l.length
  done : ∀ i, i < j → (l'[i]?).map Prod.fst = (l[i]?).map (fun p => f i p.1)
  rest : ∀ i, j ≤ i → l'[i]? = l[i]?
theorem RvI.start (f : Nat → R7z → R7z) (l : List (R7z × Value)) : RvI f l l 0 := ⟨rfl, fun i h => absurd h (by omega), fun _ _ => rfl⟩
theorem RvI.next {f : Nat → R7z → R7z} {l l' : List (R7z × Value)} {j : Nat} {p : R7z × Value} (h : RvI f l l' j) (hp : l[j]? = some p) (u : Value) : RvI f l (l'.set j (f j p.1, u)) (j + 1) := by
  have hj := (List.getElem?_eq_some_iff.1 hp).1
  refine ⟨by rw [List.length_set, h.len], fun i hi => ?_, fun i hi => ?_⟩
  · by_cases e : i = j
    · subst e
      rw [List.getElem?_set_self (by rw [h.len]; exact hj), hp]
      rfl
    · rw [List.getElem?_set_ne (fun e' => e e'.symm)]
      exact h.done i (by omega)
  · rw [List.getElem?_set_ne (by omega)]
    exact h.rest i (by omega)
theorem RvI.map {f : Nat → R7z → R7z} {l l' : List (R7z × Value)} (h : RvI f l l' l.length) : l'.map Prod.fst = (l.map Prod.fst).mapIdx f := by
  apply List.ext_getElem?
  intro i
  rw [List.getElem?_map, List.getElem?_mapIdx, List.getElem?_map]
  by_cases hi : i < l.length
  · rw [h.done i hi, Option.map_map]
    rfl
  · rw [List.getElem?_eq_none (by rw [h.len]; omega), List.getElem?_eq_none (show l.length ≤ i by omega)]
    rfl
structure Z7Ok (z : R7z) : Prop where
  len : z.ss.length ≤ 1000
  w64 : ∀ t ∈ z.ss, t.length = 64
  safe : 0 ≤ z.safe ∧ z.safe ≤ (z.ss.length : Int)
def rv7F (ks : List Int) (size : Int) (i : Nat) (z : R7z) : R7z := c7Z z (ks.getD i 0) size
set_option maxRecDepth 100000 in
set_option maxHeartbeats 2000000 in
theorem rv7_up {lo : Nat} {w : World} {v kv : Value} {l : List (R7z × Value)} (d : R7d) (hr : Row7 lo w v l) (h1 : d.down = false) :
    Calls Try.prog 38 #[.agg (d7A d v), kv] w fun e w' => e = .returned (.agg (d7A d v)) ∧ Row7 lo w' v l ∧ Below w.heap.size w w' := by
  obtain ⟨a, cap, rfl⟩ := own_slice hr.own
  have HS : Hid (Duo7 27 27 w (d7A d (.slice a l.length cap)) d7Z ((w.alloc (Obj.cells (d7A d (.slice a l.length cap)) 27)).alloc (Obj.cells #[.slice none 0 0, .int .i64 0, .int .i64 0, .int .i64 0, .bool false] 27))) := Lib.hid Duo7.start
  have HR := Lib.hid hr
  have c4 : ((w.alloc (Obj.cells (d7A d (.slice a l.length cap)) 27)).alloc (Obj.cells #[.slice none 0 0, .int .i64 0, .int .i64 0, .int .i64 0, .bool false] 27)).cell? ⟨w.heap.size, 4, none⟩ = some (.bool false) := (HS.out.x.cell 4).trans (congrArg (fun t => some (Value.bool t)) h1)
  clear hr h1
  go_enter Try.func38, Try.ntmps38
  go_upto_region 1 with fail
  generalize ((w.alloc (Obj.cells (d7A d (.slice a l.length cap)) 27)).alloc (Obj.cells #[.slice none 0 0, .int .i64 0, .int .i64 0, .int .i64 0, .bool false] 27)) = w0 at *
  go_wp2_with (first | (refine wpl_load rfl _ rfl (w.heap.size) rfl _ _ _ (HS.out.x) Try.underlying27 rfl Try.info7D ?_; go_frame) | (refine wpl_store rfl _ _ rfl (w.heap.size + 1) (d7A d (.slice a l.length cap)) rfl rfl _ _ HS.out.g Try.info7D rfl (d7A_one _ _ _ _) ?_; intro w5 hSg hKg; have HSg := Lib.hid hSg; have HKg := Lib.hid hKg; clear hSg hKg; go_frame))
  have HF := Lib.hid (HS.out.out HSg.out HKg.out)
  exact bodyPost_ret (v := .agg (d7A d (.slice a l.length cap))) (results_cell_row Try.results38 _ _ (w.heap.size + 1) 27 _ (0, 0) _ rfl HF.out.g Try.underlying27 rfl Try.info7D) rfl ⟨rfl, HR.out.below HF.out.b, HF.out.b⟩
set_option maxRecDepth 100000 in
set_option maxHeartbeats 8000000 in
theorem rv7_down {lo : Nat} {w : World} {v : Value} {l : List (R7z × Value)} {ka : Option Addr} {kl kc : Nat} {ks : List Int} (d : R7d) (hl : l.length ≤ 1000) (hz : ∀ p ∈ l, Z7Ok p.1) (hr : Row7 lo w v l) (hk : RowZ w ka kl kc ks) (hlo : lo ≤ w.heap.size) (h1 : d.down = true) :
    Calls Try.prog 38 #[.agg (d7A d v), .slice ka kl kc] w fun e w' => ∃ v' l', e = .returned (.agg (d7A { d with down := false } v')) ∧ Row7 lo w' v' l' ∧ RvI (rv7F ks d.size) l l' l.length ∧ Below w.heap.size w w' := by
  obtain ⟨a, cap, rfl⟩ := own_slice hr.own
  obtain ⟨-, k1, k2⟩ := ownK_cap hr.own
  unfold maxLen at k2
  obtain ⟨m1, m2⟩ : kl ≤ kc ∧ kc ≤ 9223372036854775807 := by have h := hk.max; unfold maxLen at h; exact ⟨hk.le, h⟩
  have HS : Hid (Duo7 27 27 w (d7A d (.slice a l.length cap)) d7Z ((w.alloc (Obj.cells (d7A d (.slice a l.length cap)) 27)).alloc (Obj.cells #[.slice none 0 0, .int .i64 0, .int .i64 0, .int .i64 0, .bool false] 27))) := Lib.hid Duo7.start
  have HR := Lib.hid hr
  have Hz := Lib.hid hz
  have HK := Lib.hid hk
  have Hlo := Lib.hid hlo
  have H1 := Lib.hid h1
  have c4 : ((w.alloc (Obj.cells (d7A d (.slice a l.length cap)) 27)).alloc (Obj.cells #[.slice none 0 0, .int .i64 0, .int .i64 0, .int .i64 0, .bool false] 27)).cell? ⟨w.heap.size, 4, none⟩ = some (.bool true) := (HS.out.x.cell 4).trans (congrArg (fun t => some (Value.bool t)) h1)
  clear hr hz hk hlo h1
  go_enter Try.func38, Try.ntmps38
  go_upto_region 1 with fail
  generalize ((w.alloc (Obj.cells (d7A d (.slice a l.length cap)) 27)).alloc (Obj.cells #[.slice none 0 0, .int .i64 0, .int .i64 0, .int .i64 0, .bool false] 27)) = w0 at *
  go_wp2_with fail
  clear c4
  go_loopw [5] (fun i wr => ∃ j : Nat, j ≤ l.length ∧ i = .int .i64 j ∧ ∃ v' l', Duo7 27 27 w (d7A d v') d7Z wr ∧ Row7 lo wr v' l' ∧ RvI (rv7F ks d.size) l l' j) (fun i _ => l.length - (intOf i).toNat)
  case atStart => exact ⟨0, Nat.zero_le _, rfl, _, _, HS.out, HR.out.below HS.out.b, RvI.start _ _⟩
  case round =>
    rename_i v0
    obtain ⟨j, hj, rfl, v', l', hS, hR, hI⟩ := hrel
    obtain ⟨a1, cap1, hv1⟩ := own_slice hR.own
    rw [hI.len] at hv1
    subst hv1
    obtain ⟨-, q1, q2⟩ := ownK_cap hR.own
    unfold maxLen at q2
    rw [hI.len] at q1
    have c0 : wr.cell? ⟨w.heap.size, 0, none⟩ = some (.slice a1 l.length cap1) := (hS.x.cell 0).trans rfl
    have HSr := Lib.hid hS
    have HRr := Lib.hid hR
    have HI := Lib.hid hI
    clear hS hR hI HS
    by_cases hlt : j < l.length
    · obtain ⟨⟨z, u⟩, hp⟩ : ∃ p, l[j]? = some p := ⟨_, List.getElem?_eq_getElem hlt⟩
      have hpj := (HI.out.rest j (Nat.le_refl _)).trans hp
      have hzo := Hz.out _ (List.mem_of_getElem? hp)
      have hu : wr.ownsRow lo 33 64 u z.ss.length (flat z.ss) := HRr.out.each _ (List.mem_of_getElem? hpj)
      obtain ⟨b, cu, rfl⟩ := own_slice hu
      have hown : wr.ownsRow lo 87 4 (.slice a1 l.length cap1) l.length (zrow l') := by have h := HRr.out.own; rwa [HI.out.len] at h
      obtain ⟨g, rfl, _, _⟩ := ownK_form hown (by omega)
      have HC := Lib.hid hown
      have HU := Lib.hid hu
      have Hp := Lib.hid hp
      have Hpj := Lib.hid hpj
      have Hzo := Lib.hid hzo
      have Hlt := Lib.hid hlt
      have Hls : Hid (ks.length = kl) := Lib.hid HK.out.length
      clear hp hpj hzo hu hown
      by_cases hjk : j < kl
      · obtain ⟨kb, koff, rfl, hkc⟩ := (HK.out.below HSr.out.b).cells (by omega)
        have ck := hkc j hjk
        clear hkc
        go_upto_region 9 with fail
        clear ck c0 hjk
        skip
        refine wp_regionL (S := fun w' => Below wr.heap.size wr w') 12 (by kernel_rfl) ?_
        have hS : Below wr.heap.size wr wr.drew := (Below.refl _ _).drew
        refine takeL [12] hS (i := 0) (d := 26) (v := .agg (d7A d (.slice (some ⟨g, 0, none⟩) l.length cap1))) rfl rfl (by kernel_rfl) (by kernel_rfl) (by kernel_rfl) (by kernel_rfl) (fun _ _ _ h => h) (Or.inl ⟨by kernel_rfl, fun w' hw' => by exact exec_load _ rfl (w.heap.size) rfl (HSr.out.x.below hw' HSr.out.x.lt) Try.underlying27 rfl Try.info7D⟩) ?_
        refine takeL [12] hS (i := 1) (d := 27) (v := .int .i64 (j : Nat)) rfl rfl (by kernel_rfl) (by kernel_rfl) (by kernel_rfl) (by kernel_rfl) (fun _ _ _ h => h) (Or.inl ⟨by kernel_rfl, fun w' hw' => by kernel_rfl⟩) ?_
        refine takeL [12] hS (i := 2) (d := 28) (v := .pointer (some ⟨w.heap.size, 0, none⟩)) rfl rfl (by kernel_rfl) (by kernel_rfl) (by kernel_rfl) (by kernel_rfl) (fun _ _ _ h => h) (Or.inl ⟨by kernel_rfl, fun w' hw' => by kernel_rfl⟩) ?_
        refine takeL [12] hS (i := 3) (d := 29) (v := .slice (some ⟨g, 0, none⟩) l.length cap1) rfl rfl (by kernel_rfl) (by kernel_rfl) (by kernel_rfl) (by kernel_rfl) (fun _ _ _ h => h) (Or.inl ⟨by kernel_rfl, fun w' hw' => by exact exec_cellv _ rfl ⟨w.heap.size, 0, none⟩ rfl (.slice (some ⟨g, 0, none⟩) l.length cap1) Try.underlying25 rfl (((HSr.out.x.below hw' HSr.out.x.lt).cell 0).trans rfl)⟩) ?_
        try go_frame
        refine takeL [12] hS (i := 4) (d := 30) (v := .int .i64 (j : Nat)) rfl rfl (by kernel_rfl) (by kernel_rfl) (by kernel_rfl) (by kernel_rfl) (fun _ _ _ h => h) (Or.inl ⟨by kernel_rfl, fun w' hw' => by kernel_rfl⟩) ?_
        refine takeL [12] hS (i := 5) (d := 31) (v := .pointer (some ⟨g, j * 4, none⟩)) rfl rfl (by kernel_rfl) (by kernel_rfl) (by kernel_rfl) (by kernel_rfl) (fun _ _ _ h => h) (Or.inl ⟨by kernel_rfl, fun w' hw' => by exact exec_indexK el7Z _ _ rfl g l.length cap1 j rfl rfl Hlt.out⟩) ?_
        refine takeL [12] hS (i := 6) (d := 32) (v := .agg (z7A z (.slice b z.ss.length cu))) rfl rfl (by kernel_rfl) (by kernel_rfl) (by kernel_rfl) (by kernel_rfl) (fun _ _ _ h => h) (Or.inl ⟨by kernel_rfl, fun w' hw' => by exact exec_load_z _ _ rfl g (j * 4) rfl (z, .slice b z.ss.length cu) _ (row_range (ownK_below HC.out hw') HI.out.len j _ Hpj.out) Try.underlying87 rfl Try.info7Z⟩) ?_
        refine takeL [12] hS (i := 7) (d := 33) (v := .int .i64 (ks.getD j 0)) rfl rfl (by kernel_rfl) (by kernel_rfl) (by kernel_rfl) (by kernel_rfl) (fun _ _ _ h => h) (Or.inl ⟨by kernel_rfl, fun w' hw' => by kernel_rfl⟩) ?_
        try go_frame
        refine takeL [12] hS (i := 8) (d := 34) (v := .pointer (some ⟨w.heap.size, 1, none⟩)) rfl rfl (by kernel_rfl) (by kernel_rfl) (by kernel_rfl) (by kernel_rfl) (fun _ _ _ h => h) (Or.inl ⟨by kernel_rfl, fun w' hw' => by kernel_rfl⟩) ?_
        refine takeL [12] hS (i := 9) (d := 35) (v := .int .i64 d.size) rfl rfl (by kernel_rfl) (by kernel_rfl) (by kernel_rfl) (by kernel_rfl) (fun _ _ _ h => h) (Or.inl ⟨by kernel_rfl, fun w' hw' => by exact exec_cell _ rfl ⟨w.heap.size, 1, none⟩ rfl _ Try.underlying3 (((HSr.out.x.below hw' HSr.out.x.lt).cell 1).trans rfl)⟩) ?_
        try go_frame
        refine nextL (i := 10) rfl (by kernel_rfl) (by kernel_rfl) (fun K' hK => ?_)
        go_wp2_with fail
        refine (cr7 (ks.getD j 0) d.size (ownK_below HU.out hS) Hzo.out.w64 Hzo.out.len Hzo.out.safe.1 Hzo.out.safe.2 (by have := HSr.out.b.size; have := Hlo.out; have := hS.size; omega)).mono ?_
        rintro en w1 ⟨u1, rfl, ho, hb⟩
        obtain ⟨ua, uc, rfl⟩ := own_slice ho
        have hS1 : Below wr.heap.size wr w1 := bel_next hS hb
        have HO := Lib.hid ho
        refine hK.out _ _ ⟨fun _ => hS1, ?_⟩
        clear hK K' hb hS ho
        try go_frame
        refine nextL (i := 11) rfl (by kernel_rfl) (by kernel_rfl) (fun K' hK => ?_)
        go_wp2_with fail
        refine (p7 d (c7Z z (ks.getD j 0) d.size) j (by rw [HI.out.len]; exact Hlt.out) (by rw [HI.out.len]; exact hl) (HRr.out.below hS1) HO.out (by have := HSr.out.b.size; have := Hlo.out; have := hS1.size; omega)).mono ?_
        rintro en w2 ⟨vp, rfl, hrp, hb⟩
        obtain ⟨ap, cpp, hvp⟩ := own_slice hrp.own
        rw [List.length_set, HI.out.len] at hvp
        subst hvp
        have hS2 : Below wr.heap.size wr w2 := bel_next hS1 hb
        have HP := Lib.hid hrp
        have HS2 := Lib.hid (HSr.out.below hS2)
        refine hK.out _ _ ⟨fun _ => hS2, ?_⟩
        clear hK K' hb hS1 hS2 hrp
        try go_frame
        refine nextL (i := 12) rfl (by kernel_rfl) (by kernel_rfl) (fun K' hK => ?_)
        refine wpo_store _ _ rfl (w.heap.size) (d7A d (.slice ap l.length cpp)) rfl rfl _ _ HS2.out.x (Try.info7D) rfl (d7A_one _ _ _ _) ?_
        intro w3 hX hq
        have HS3 := Lib.hid (HS2.out.newx hX hq)
        have HR3 := Lib.hid (HP.out.keptB HS2.out.x (by decide) (by decide) hq)
        refine hK.out _ _ ⟨fun h => absurd rfl h, ?_⟩
        clear hK K' hq hX
        try go_frame
        refine wpAnyL_done (by kernel_rfl) ?_ _
        try go_frame
        go_wp2_with fail
        go_roundw
        case rel => exact ⟨j + 1, by have := Hlt.out; omega, by go_num, _, _, HS3.out, HR3.out, HI.out.next Hp.out _⟩
        case measure => (have := Hlt.out; simp [intOf]; omega)
      · have hk0 : ks.getD j 0 = 0 := by rw [List.getD_eq_getElem?_getD, List.getElem?_eq_none (by rw [Hls.out]; omega)]; rfl
        have Hk0 := Lib.hid hk0
        clear hk0
        go_upto_region 9 with fail
        clear c0 hjk
        skip
        refine wp_regionL (S := fun w' => Below wr.heap.size wr w') 12 (by kernel_rfl) ?_
        have hS : Below wr.heap.size wr wr.drew := (Below.refl _ _).drew
        refine takeL [12] hS (i := 0) (d := 26) (v := .agg (d7A d (.slice (some ⟨g, 0, none⟩) l.length cap1))) rfl rfl (by kernel_rfl) (by kernel_rfl) (by kernel_rfl) (by kernel_rfl) (fun _ _ _ h => h) (Or.inl ⟨by kernel_rfl, fun w' hw' => by exact exec_load _ rfl (w.heap.size) rfl (HSr.out.x.below hw' HSr.out.x.lt) Try.underlying27 rfl Try.info7D⟩) ?_
        refine takeL [12] hS (i := 1) (d := 27) (v := .int .i64 (j : Nat)) rfl rfl (by kernel_rfl) (by kernel_rfl) (by kernel_rfl) (by kernel_rfl) (fun _ _ _ h => h) (Or.inl ⟨by kernel_rfl, fun w' hw' => by kernel_rfl⟩) ?_
        refine takeL [12] hS (i := 2) (d := 28) (v := .pointer (some ⟨w.heap.size, 0, none⟩)) rfl rfl (by kernel_rfl) (by kernel_rfl) (by kernel_rfl) (by kernel_rfl) (fun _ _ _ h => h) (Or.inl ⟨by kernel_rfl, fun w' hw' => by kernel_rfl⟩) ?_
        refine takeL [12] hS (i := 3) (d := 29) (v := .slice (some ⟨g, 0, none⟩) l.length cap1) rfl rfl (by kernel_rfl) (by kernel_rfl) (by kernel_rfl) (by kernel_rfl) (fun _ _ _ h => h) (Or.inl ⟨by kernel_rfl, fun w' hw' => by exact exec_cellv _ rfl ⟨w.heap.size, 0, none⟩ rfl (.slice (some ⟨g, 0, none⟩) l.length cap1) Try.underlying25 rfl (((HSr.out.x.below hw' HSr.out.x.lt).cell 0).trans rfl)⟩) ?_
        try go_frame
        refine takeL [12] hS (i := 4) (d := 30) (v := .int .i64 (j : Nat)) rfl rfl (by kernel_rfl) (by kernel_rfl) (by kernel_rfl) (by kernel_rfl) (fun _ _ _ h => h) (Or.inl ⟨by kernel_rfl, fun w' hw' => by kernel_rfl⟩) ?_
        refine takeL [12] hS (i := 5) (d := 31) (v := .pointer (some ⟨g, j * 4, none⟩)) rfl rfl (by kernel_rfl) (by kernel_rfl) (by kernel_rfl) (by kernel_rfl) (fun _ _ _ h => h) (Or.inl ⟨by kernel_rfl, fun w' hw' => by exact exec_indexK el7Z _ _ rfl g l.length cap1 j rfl rfl Hlt.out⟩) ?_
        refine takeL [12] hS (i := 6) (d := 32) (v := .agg (z7A z (.slice b z.ss.length cu))) rfl rfl (by kernel_rfl) (by kernel_rfl) (by kernel_rfl) (by kernel_rfl) (fun _ _ _ h => h) (Or.inl ⟨by kernel_rfl, fun w' hw' => by exact exec_load_z _ _ rfl g (j * 4) rfl (z, .slice b z.ss.length cu) _ (row_range (ownK_below HC.out hw') HI.out.len j _ Hpj.out) Try.underlying87 rfl Try.info7Z⟩) ?_
        refine takeL [12] hS (i := 7) (d := 33) (v := .int .i64 0) rfl rfl (by kernel_rfl) (by kernel_rfl) (by kernel_rfl) (by kernel_rfl) (fun _ _ _ h => h) (Or.inl ⟨by kernel_rfl, fun w' hw' => by kernel_rfl⟩) ?_
        try go_frame
        refine takeL [12] hS (i := 8) (d := 34) (v := .pointer (some ⟨w.heap.size, 1, none⟩)) rfl rfl (by kernel_rfl) (by kernel_rfl) (by kernel_rfl) (by kernel_rfl) (fun _ _ _ h => h) (Or.inl ⟨by kernel_rfl, fun w' hw' => by kernel_rfl⟩) ?_
        refine takeL [12] hS (i := 9) (d := 35) (v := .int .i64 d.size) rfl rfl (by kernel_rfl) (by kernel_rfl) (by kernel_rfl) (by kernel_rfl) (fun _ _ _ h => h) (Or.inl ⟨by kernel_rfl, fun w' hw' => by exact exec_cell _ rfl ⟨w.heap.size, 1, none⟩ rfl _ Try.underlying3 (((HSr.out.x.below hw' HSr.out.x.lt).cell 1).trans rfl)⟩) ?_
        try go_frame
        refine nextL (i := 10) rfl (by kernel_rfl) (by kernel_rfl) (fun K' hK => ?_)
        go_wp2_with fail
        refine (cr7 0 d.size (ownK_below HU.out hS) Hzo.out.w64 Hzo.out.len Hzo.out.safe.1 Hzo.out.safe.2 (by have := HSr.out.b.size; have := Hlo.out; have := hS.size; omega)).mono ?_
        rintro en w1 ⟨u1, rfl, ho, hb⟩
        obtain ⟨ua, uc, rfl⟩ := own_slice ho
        have hS1 : Below wr.heap.size wr w1 := bel_next hS hb
        have HO := Lib.hid ho
        refine hK.out _ _ ⟨fun _ => hS1, ?_⟩
        clear hK K' hb hS ho
        try go_frame
        refine nextL (i := 11) rfl (by kernel_rfl) (by kernel_rfl) (fun K' hK => ?_)
        go_wp2_with fail
        refine (p7 d (c7Z z 0 d.size) j (by rw [HI.out.len]; exact Hlt.out) (by rw [HI.out.len]; exact hl) (HRr.out.below hS1) HO.out (by have := HSr.out.b.size; have := Hlo.out; have := hS1.size; omega)).mono ?_
        rintro en w2 ⟨vp, rfl, hrp, hb⟩
        obtain ⟨ap, cpp, hvp⟩ := own_slice hrp.own
        rw [List.length_set, HI.out.len] at hvp
        subst hvp
        have hS2 : Below wr.heap.size wr w2 := bel_next hS1 hb
        have HP := Lib.hid hrp
        have HS2 := Lib.hid (HSr.out.below hS2)
        refine hK.out _ _ ⟨fun _ => hS2, ?_⟩
        clear hK K' hb hS1 hS2 hrp
        try go_frame
        refine nextL (i := 12) rfl (by kernel_rfl) (by kernel_rfl) (fun K' hK => ?_)
        refine wpo_store _ _ rfl (w.heap.size) (d7A d (.slice ap l.length cpp)) rfl rfl _ _ HS2.out.x (Try.info7D) rfl (d7A_one _ _ _ _) ?_
        intro w3 hX hq
        have HS3 := Lib.hid (HS2.out.newx hX hq)
        have HR3 := Lib.hid (HP.out.keptB HS2.out.x (by decide) (by decide) hq)
        refine hK.out _ _ ⟨fun h => absurd rfl h, ?_⟩
        clear hK K' hq hX
        try go_frame
        refine wpAnyL_done (by kernel_rfl) ?_ _
        try go_frame
        go_wp2_with fail
        go_roundw
        case rel => exact ⟨j + 1, by have := Hlt.out; omega, by go_num, _, _, HS3.out, HR3.out, (by have h := HI.out.next Hp.out (.slice ua (c7Z z (ks.getD j 0) d.size).ss.length uc); unfold rv7F at h; rw [Hk0.out] at h; exact h)⟩
        case measure => (have := Hlt.out; simp [intOf]; omega)
    · obtain rfl : j = l.length := by omega
      have f4 := HSr.out.x.frozen 4
      have c4 := (HSr.out.x.cell 4).trans (show (d7A d (.slice a1 l.length cap1))[4]? = some (.bool d.down) from rfl)
      go_upto_region 11 with fail
      have HS4 : Hid (Duo7 27 27 w (d7A { d with down := false } (.slice a1 l.length cap1)) d7Z (wr.setCell ⟨w.heap.size, 4, none⟩ (.bool false))) := Lib.hid (HSr.out.set 4 _)
      have HR4 := Lib.hid (HRr.out.keptB HSr.out.x (by decide) (by decide) ((Kept.refl (· = w.heap.size) wr).setCell (p := ⟨w.heap.size, 4, none⟩) rfl (.bool false)))
      clear c0 c4 f4 HSr HRr
      generalize wr.setCell ⟨w.heap.size, 4, none⟩ (.bool false) = w4 at *
      go_wp2_with (first | (refine wpl_load rfl _ rfl (w.heap.size) rfl _ _ _ (HS4.out.x) Try.underlying27 rfl Try.info7D ?_; go_frame) | (refine wpl_store rfl _ _ rfl (w.heap.size + 1) (d7A { d with down := false } (.slice a1 l.length cap1)) rfl rfl _ _ HS4.out.g Try.info7D rfl (d7A_one _ _ _ _) ?_; intro w5 hSg hKg; have HSg := Lib.hid hSg; have HKg := Lib.hid hKg; clear hSg hKg; go_frame))
      have HF := Lib.hid (HS4.out.out HSg.out HKg.out)
      exact bodyPost_ret (v := .agg (d7A { d with down := false } (.slice a1 l.length cap1))) (results_cell_row Try.results38 _ _ (w.heap.size + 1) 27 _ (0, 0) _ rfl HF.out.g Try.underlying27 rfl Try.info7D) rfl ⟨_, _, rfl, HR4.out.keptB HS4.out.g (by decide) (by decide) HKg.out, HI.out, HF.out.b⟩
end Go.Proofs.Ytajkajgnjcnolaa

namespace Go.Proofs.Ytajkajgnjcnolaa
open Go.RowKit
set_option linter.unusedVariables false
set_option linter.unnecessarySimpa false
set_option linter.unusedSimpArgs false
def fa7E (n : Nat) (i : Int) : Int := if i < 0 ∨ (n : Int) ≤ i then 13 else 0
def fa7Z (z : R7z) (st : Int) : R7z := if st = 4 ∨ st = 3 ∧ z.state ≠ 4 then { z with state := st } else z
def onz (l : List (R7z × Value)) (k : Nat) (f : R7z → R7z) : List (R7z × Value) := match l[k]? with | some p => l.set k (f p.1, p.2) | none => l
def fa7L (l : List (R7z × Value)) (i st : Int) : List (R7z × Value) := if fa7E l.length i = 0 then onz l i.toNat (fun z => fa7Z z st) else l
theorem onz_at {l : List (R7z × Value)} {k : Nat} {p : R7z × Value} (hp : l[k]? = some p) (f : R7z → R7z) : onz l k f = l.set k (f p.1, p.2) := by unfold onz; rw [hp]
set_option maxRecDepth 100000 in
set_option maxHeartbeats 4000000 in
theorem fa7 {lo : Nat} {w : World} {v : Value} {l : List (R7z × Value)} (d : R7d) (i st : Int) (hl : l.length ≤ 1000) (hr : Row7 lo w v l) (hlo : lo ≤ w.heap.size) :
    Calls Try.prog 77 #[.agg (d7A d v), .int .i64 i, .int .i64 st] w fun e w' => ∃ v', e = .returned (.tuple #[.agg (d7A d v'), .int .i64 (fa7E l.length i)]) ∧ Row7 lo w' v' (fa7L l i st) ∧ Below w.heap.size w w' := by
  obtain ⟨a, cap, rfl⟩ := own_slice hr.own
  obtain ⟨_, k1, k2⟩ := ownK_cap hr.own
  unfold maxLen at k2
  have HS : Hid (Duo7 27 27 w (d7A d (.slice a l.length cap)) d7Z ((w.alloc (Obj.cells (d7A d (.slice a l.length cap)) 27)).alloc (Obj.cells #[.slice none 0 0, .int .i64 0, .int .i64 0, .int .i64 0, .bool false] 27))) := Lib.hid Duo7.start
  have HR := Lib.hid hr
  have Hlo := Lib.hid hlo
  clear hr hlo
  by_cases h1 : i < 0 ∨ (l.length : Int) ≤ i
  · have hE : fa7E l.length i = 13 := by unfold fa7E; rw [if_pos h1]
    have hL : fa7L l i st = l := by unfold fa7L; rw [hE]; rfl
    rw [hE, hL]
    clear hE hL
    rcases Int.lt_or_le i 0 with h0 | h0
    · clear h1
      go_enter Try.func77, Try.ntmps77
      go_upto_region 1 with fail
      generalize ((w.alloc (Obj.cells (d7A d (.slice a l.length cap)) 27)).alloc (Obj.cells #[.slice none 0 0, .int .i64 0, .int .i64 0, .int .i64 0, .bool false] 27)) = w0 at *
      have c0 := (HS.out.x.cell 0).trans (show (d7A d (.slice a l.length cap))[0]? = some (.slice a l.length cap) from rfl)
      go_wp2_with (first | (refine wpl_load rfl _ rfl (w.heap.size) rfl _ _ _ (HS.out.x) Try.underlying27 rfl Try.info7D ?_; go_frame) | (refine wpl_store rfl _ _ rfl (w.heap.size + 1) (d7A d (.slice a l.length cap)) rfl rfl _ _ HS.out.g Try.info7D rfl (d7A_one _ _ _ _) ?_; intro w5 hSg hKg; have HSg := Lib.hid hSg; have HKg := Lib.hid hKg; clear hSg hKg; go_frame))
      have HF := Lib.hid (HS.out.out HSg.out HKg.out)
      exact bodyPost_ret (v := .tuple #[.agg (d7A d (.slice a l.length cap)), .int .i64 13]) (results_cell_slot Try.results77 _ _ (w.heap.size + 1) 27 _ _ _ rfl rfl HF.out.g Try.underlying27 rfl Try.info7D) rfl ⟨_, rfl, HR.out.below HF.out.b, HF.out.b⟩
    · have h2' : (l.length : Int) ≤ i := by omega
      clear h1
      go_enter Try.func77, Try.ntmps77
      go_upto_region 1 with fail
      generalize ((w.alloc (Obj.cells (d7A d (.slice a l.length cap)) 27)).alloc (Obj.cells #[.slice none 0 0, .int .i64 0, .int .i64 0, .int .i64 0, .bool false] 27)) = w0 at *
      have c0 := (HS.out.x.cell 0).trans (show (d7A d (.slice a l.length cap))[0]? = some (.slice a l.length cap) from rfl)
      go_wp2_with (first | (refine wpl_load rfl _ rfl (w.heap.size) rfl _ _ _ (HS.out.x) Try.underlying27 rfl Try.info7D ?_; go_frame) | (refine wpl_store rfl _ _ rfl (w.heap.size + 1) (d7A d (.slice a l.length cap)) rfl rfl _ _ HS.out.g Try.info7D rfl (d7A_one _ _ _ _) ?_; intro w5 hSg hKg; have HSg := Lib.hid hSg; have HKg := Lib.hid hKg; clear hSg hKg; go_frame))
      have HF := Lib.hid (HS.out.out HSg.out HKg.out)
      exact bodyPost_ret (v := .tuple #[.agg (d7A d (.slice a l.length cap)), .int .i64 13]) (results_cell_slot Try.results77 _ _ (w.heap.size + 1) 27 _ _ _ rfl rfl HF.out.g Try.underlying27 rfl Try.info7D) rfl ⟨_, rfl, HR.out.below HF.out.b, HF.out.b⟩
  · have hE : fa7E l.length i = 0 := by unfold fa7E; rw [if_neg h1]
    have i0 : 0 ≤ i := by omega
    have i1 : i < (l.length : Int) := by omega
    obtain ⟨k, rfl⟩ := Int.eq_ofNat_of_zero_le i0
    have hk : k < l.length := by omega
    obtain ⟨p, hp⟩ : ∃ p, l[k]? = some p := ⟨_, List.getElem?_eq_getElem hk⟩
    have hL : fa7L l (k : Int) st = l.set k (fa7Z p.1 st, p.2) := by unfold fa7L; rw [if_pos hE, Int.toNat_natCast, onz_at hp]
    rw [hE, hL]
    obtain ⟨z, u⟩ := p
    have hu : w.ownsRow lo 33 64 u z.ss.length (flat z.ss) := HR.out.each _ (List.mem_of_getElem? hp)
    obtain ⟨b, cu, rfl⟩ := own_slice hu
    obtain ⟨g, rfl, _, _⟩ := ownK_form HR.out.own (by omega)
    have Hk := Lib.hid hk
    have Hp := Lib.hid hp
    have HU := Lib.hid hu
    generalize hZZ : fa7Z z st = Z'
    have HZ := Lib.hid hZZ
    clear h1 hE hL hp hu i0 i1 hZZ
    go_enter Try.func77, Try.ntmps77
    go_upto_region 1 with fail
    generalize ((w.alloc (Obj.cells (d7A d (.slice (some ⟨g, 0, none⟩) l.length cap)) 27)).alloc (Obj.cells #[.slice none 0 0, .int .i64 0, .int .i64 0, .int .i64 0, .bool false] 27)) = w0 at *
    have c0 := (HS.out.x.cell 0).trans (show (d7A d (.slice (some ⟨g, 0, none⟩) l.length cap))[0]? = some (.slice (some ⟨g, 0, none⟩) l.length cap) from rfl)
    have HR0 := Lib.hid (HR.out.below HS.out.b)
    have HU0 := Lib.hid (ownK_below HU.out HS.out.b)
    have HC := Lib.hid (row_range HR0.out.own rfl k _ Hp.out)
    go_upto_region 4 with (first | (refine wpl_load_z (by rfl) _ _ rfl g (k * 4) rfl (z, .slice b z.ss.length cu) _ HC.out Try.underlying87 rfl Try.info7Z ?_; go_frame) | (refine wpl_store_new rfl _ _ rfl (z7A z (.slice b z.ss.length cu)) w0 87 z7Z rfl rfl rfl Try.info7Z rfl (z7A_one _ _ _ _) ?_; go_frame))
    clear c0
    have HY := Lib.hid (Blk.new w0 87 (z7A z (.slice b z.ss.length cu)))
    have Hb := Lib.hid (below_alloc w0 (Obj.cells (z7A z (.slice b z.ss.length cu)) 87))
    generalize w0.alloc (Obj.cells (z7A z (.slice b z.ss.length cu)) 87) = w1 at *
    have Hgb := Lib.hid HS.out.g.lt
    have c2 := (HY.out.cell 2).trans (show (z7A z (.slice b z.ss.length cu))[2]? = some (.int .i64 z.state) from rfl)
    have f2 := HY.out.frozen 2
    by_cases h4 : st = 4
    · subst h4
      have hZ : fa7Z z 4 = { z with state := 4 } := by unfold fa7Z; rw [if_pos (.inl rfl)]
      obtain rfl := hZ.symm.trans HZ.out
      clear hZ
      go_upto_region 6 with fail
      have HS2 := Lib.hid (HS.out.below (Hb.out.setCell (p := ⟨w0.heap.size, 2, none⟩) (Nat.le_refl _) (.int .i64 4)))
      have HR2 := Lib.hid (HR0.out.below (Hb.out.setCell (p := ⟨w0.heap.size, 2, none⟩) (Nat.le_refl _) (.int .i64 4)))
      have HU2 := Lib.hid (ownK_below HU0.out (Hb.out.setCell (p := ⟨w0.heap.size, 2, none⟩) (Nat.le_refl _) (.int .i64 4)))
      have HY2 : Hid (Blk (w1.setCell ⟨w0.heap.size, 2, none⟩ (.int .i64 4)) w0.heap.size 87 (z7A ({ z with state := 4 }) (.slice b z.ss.length cu))) := Lib.hid (HY.out.set 2 _)
      clear c2 f2
      generalize hw2 : w1.setCell ⟨w0.heap.size, 2, none⟩ (.int .i64 4) = w2 at *
      go_wp2_with (first | (refine wpl_load rfl _ rfl (w.heap.size) rfl _ _ _ (HS2.out.x) Try.underlying27 rfl Try.info7D ?_; go_frame) | (refine wpl_load rfl _ rfl (w0.heap.size) rfl _ _ _ (HY2.out) Try.underlying87 rfl Try.info7Z ?_; go_frame))
      refine (p7 d ({ z with state := 4 }) k Hk.out (by omega) HR2.out HU2.out (by have := HS2.out.b.size; have := Hlo.out; omega)).mono ?_
      rintro e w4 ⟨v', rfl, hr4, hb⟩
      obtain ⟨a4, c4, hv4⟩ := own_slice hr4.own
      rw [List.length_set] at hv4
      subst hv4
      have HS4 := Lib.hid (HS2.out.below hb)
      have HR4 := Lib.hid hr4
      clear hb hr4
      go_wp2_with (first | (refine wpl_store rfl _ _ rfl (w.heap.size + 1) (d7A d (.slice a4 l.length c4)) rfl rfl _ _ HS4.out.g Try.info7D rfl (d7A_one _ _ _ _) ?_; intro w5 hSg hKg; have HSg := Lib.hid hSg; have HKg := Lib.hid hKg; clear hSg hKg; go_frame))
      have HF := Lib.hid (HS4.out.out HSg.out HKg.out)
      exact bodyPost_ret (v := .tuple #[.agg (d7A d (.slice a4 l.length c4)), .int .i64 0]) (results_cell_slot Try.results77 _ _ (w.heap.size + 1) 27 _ _ _ rfl rfl HF.out.g Try.underlying27 rfl Try.info7D) rfl ⟨_, rfl, HR4.out.keptB HS4.out.g (by decide) (by decide) HKg.out, HF.out.b⟩
    · have h4' : (st == 4) = false := by simpa using h4
      by_cases h3 : st = 3
      · subst h3
        by_cases hs : z.state = 4
        · have hZ : fa7Z z 3 = z := by unfold fa7Z; rw [if_neg (by simp [hs])]
          obtain rfl := hZ.symm.trans HZ.out
          rw [hs] at c2
          have Hs := Lib.hid hs
          clear hZ hs
          go_upto_region 6 with fail
          have HS2 := Lib.hid (HS.out.below (Hb.out))
          have HR2 := Lib.hid (HR0.out.below (Hb.out))
          have HU2 := Lib.hid (ownK_below HU0.out (Hb.out))
          have HY2 : Hid (Blk (w1) w0.heap.size 87 (z7A (z) (.slice b z.ss.length cu))) := Lib.hid (HY.out)
          clear c2 f2
          go_wp2_with (first | (refine wpl_load rfl _ rfl (w.heap.size) rfl _ _ _ (HS2.out.x) Try.underlying27 rfl Try.info7D ?_; go_frame) | (refine wpl_load rfl _ rfl (w0.heap.size) rfl _ _ _ (HY2.out) Try.underlying87 rfl Try.info7Z ?_; go_frame))
          refine (p7 d (z) k Hk.out (by omega) HR2.out HU2.out (by have := HS2.out.b.size; have := Hlo.out; omega)).mono ?_
          rintro e w4 ⟨v', rfl, hr4, hb⟩
          obtain ⟨a4, c4, hv4⟩ := own_slice hr4.own
          rw [List.length_set] at hv4
          subst hv4
          have HS4 := Lib.hid (HS2.out.below hb)
          have HR4 := Lib.hid hr4
          clear hb hr4
          go_wp2_with (first | (refine wpl_store rfl _ _ rfl (w.heap.size + 1) (d7A d (.slice a4 l.length c4)) rfl rfl _ _ HS4.out.g Try.info7D rfl (d7A_one _ _ _ _) ?_; intro w5 hSg hKg; have HSg := Lib.hid hSg; have HKg := Lib.hid hKg; clear hSg hKg; go_frame))
          have HF := Lib.hid (HS4.out.out HSg.out HKg.out)
          exact bodyPost_ret (v := .tuple #[.agg (d7A d (.slice a4 l.length c4)), .int .i64 0]) (results_cell_slot Try.results77 _ _ (w.heap.size + 1) 27 _ _ _ rfl rfl HF.out.g Try.underlying27 rfl Try.info7D) rfl ⟨_, rfl, HR4.out.keptB HS4.out.g (by decide) (by decide) HKg.out, HF.out.b⟩
        · have hZ : fa7Z z 3 = { z with state := 3 } := by unfold fa7Z; rw [if_pos (.inr ⟨rfl, hs⟩)]
          have hs' : (z.state != 4) = true := by simpa using hs
          obtain rfl := hZ.symm.trans HZ.out
          clear hZ hs
          go_upto_region 6 with fail
          have HS2 := Lib.hid (HS.out.below (Hb.out.setCell (p := ⟨w0.heap.size, 2, none⟩) (Nat.le_refl _) (.int .i64 3)))
          have HR2 := Lib.hid (HR0.out.below (Hb.out.setCell (p := ⟨w0.heap.size, 2, none⟩) (Nat.le_refl _) (.int .i64 3)))
          have HU2 := Lib.hid (ownK_below HU0.out (Hb.out.setCell (p := ⟨w0.heap.size, 2, none⟩) (Nat.le_refl _) (.int .i64 3)))
          have HY2 : Hid (Blk (w1.setCell ⟨w0.heap.size, 2, none⟩ (.int .i64 3)) w0.heap.size 87 (z7A ({ z with state := 3 }) (.slice b z.ss.length cu))) := Lib.hid (HY.out.set 2 _)
          clear c2 f2
          generalize hw2 : w1.setCell ⟨w0.heap.size, 2, none⟩ (.int .i64 3) = w2 at *
          go_wp2_with (first | (refine wpl_load rfl _ rfl (w.heap.size) rfl _ _ _ (HS2.out.x) Try.underlying27 rfl Try.info7D ?_; go_frame) | (refine wpl_load rfl _ rfl (w0.heap.size) rfl _ _ _ (HY2.out) Try.underlying87 rfl Try.info7Z ?_; go_frame))
          refine (p7 d ({ z with state := 3 }) k Hk.out (by omega) HR2.out HU2.out (by have := HS2.out.b.size; have := Hlo.out; omega)).mono ?_
          rintro e w4 ⟨v', rfl, hr4, hb⟩
          obtain ⟨a4, c4, hv4⟩ := own_slice hr4.own
          rw [List.length_set] at hv4
          subst hv4
          have HS4 := Lib.hid (HS2.out.below hb)
          have HR4 := Lib.hid hr4
          clear hb hr4
          go_wp2_with (first | (refine wpl_store rfl _ _ rfl (w.heap.size + 1) (d7A d (.slice a4 l.length c4)) rfl rfl _ _ HS4.out.g Try.info7D rfl (d7A_one _ _ _ _) ?_; intro w5 hSg hKg; have HSg := Lib.hid hSg; have HKg := Lib.hid hKg; clear hSg hKg; go_frame))
          have HF := Lib.hid (HS4.out.out HSg.out HKg.out)
          exact bodyPost_ret (v := .tuple #[.agg (d7A d (.slice a4 l.length c4)), .int .i64 0]) (results_cell_slot Try.results77 _ _ (w.heap.size + 1) 27 _ _ _ rfl rfl HF.out.g Try.underlying27 rfl Try.info7D) rfl ⟨_, rfl, HR4.out.keptB HS4.out.g (by decide) (by decide) HKg.out, HF.out.b⟩
      · have hZ : fa7Z z st = z := by unfold fa7Z; rw [if_neg (by simp [h4, h3])]
        have h3' : (st == 3) = false := by simpa using h3
        obtain rfl := hZ.symm.trans HZ.out
        clear hZ h4 h3
        go_upto_region 6 with fail
        have HS2 := Lib.hid (HS.out.below (Hb.out))
        have HR2 := Lib.hid (HR0.out.below (Hb.out))
        have HU2 := Lib.hid (ownK_below HU0.out (Hb.out))
        have HY2 : Hid (Blk (w1) w0.heap.size 87 (z7A (z) (.slice b z.ss.length cu))) := Lib.hid (HY.out)
        clear c2 f2
        go_wp2_with (first | (refine wpl_load rfl _ rfl (w.heap.size) rfl _ _ _ (HS2.out.x) Try.underlying27 rfl Try.info7D ?_; go_frame) | (refine wpl_load rfl _ rfl (w0.heap.size) rfl _ _ _ (HY2.out) Try.underlying87 rfl Try.info7Z ?_; go_frame))
        refine (p7 d (z) k Hk.out (by omega) HR2.out HU2.out (by have := HS2.out.b.size; have := Hlo.out; omega)).mono ?_
        rintro e w4 ⟨v', rfl, hr4, hb⟩
        obtain ⟨a4, c4, hv4⟩ := own_slice hr4.own
        rw [List.length_set] at hv4
        subst hv4
        have HS4 := Lib.hid (HS2.out.below hb)
        have HR4 := Lib.hid hr4
        clear hb hr4
        go_wp2_with (first | (refine wpl_store rfl _ _ rfl (w.heap.size + 1) (d7A d (.slice a4 l.length c4)) rfl rfl _ _ HS4.out.g Try.info7D rfl (d7A_one _ _ _ _) ?_; intro w5 hSg hKg; have HSg := Lib.hid hSg; have HKg := Lib.hid hKg; clear hSg hKg; go_frame))
        have HF := Lib.hid (HS4.out.out HSg.out HKg.out)
        exact bodyPost_ret (v := .tuple #[.agg (d7A d (.slice a4 l.length c4)), .int .i64 0]) (results_cell_slot Try.results77 _ _ (w.heap.size + 1) 27 _ _ _ rfl rfl HF.out.g Try.underlying27 rfl Try.info7D) rfl ⟨_, rfl, HR4.out.keptB HS4.out.g (by decide) (by decide) HKg.out, HF.out.b⟩
end Go.Proofs.Ytajkajgnjcnolaa

