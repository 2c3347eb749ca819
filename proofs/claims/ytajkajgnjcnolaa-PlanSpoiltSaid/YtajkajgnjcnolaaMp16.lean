import Derived.Test.YtajkajgnjcnolaaMp15
import Derived.Test.YtajkajgnjcnolaaMp06
namespace Go.Proofs.Ytajkajgnjcnolaa
open Go.RowKit
set_option linter.unusedVariables false
set_option linter.unnecessarySimpa false
set_option linter.unusedSimpArgs false
def fn7Z (z : R7z) : R7z := { z with state := 2, fin := true }
def fn7L (d : R7d) (l : List (R7z × Value)) (i : Int) : List (R7z × Value) := if rs7E d l i = 0 then onz l i.toNat fn7Z else l
set_option maxRecDepth 100000 in
set_option maxHeartbeats 4000000 in
theorem fn7 {lo : Nat} {w : World} {v : Value} {l : List (R7z × Value)} (d : R7d) (i : Int) (hn : 0 ≤ d.n ∧ d.n ≤ 1000000) (hl : l.length ≤ 1000) (hr : Row7 lo w v l) (hlo : lo ≤ w.heap.size) :
    Calls Try.prog 33 #[.agg (d7A d v), .int .i64 i] w fun e w' => ∃ v', e = .returned (.tuple #[.agg (d7A (b7R d l.length i) v'), .int .i64 (rs7E d l i)]) ∧ Row7 lo w' v' (fn7L d l i) ∧ Below w.heap.size w w' := by
  obtain ⟨a, cap, rfl⟩ := own_slice hr.own
  obtain ⟨_, k1, k2⟩ := ownK_cap hr.own
  unfold maxLen at k2
  have HS : Hid (Duo7 27 27 w (d7A d (.slice a l.length cap)) d7Z ((w.alloc (Obj.cells (d7A d (.slice a l.length cap)) 27)).alloc (Obj.cells #[.slice none 0 0, .int .i64 0, .int .i64 0, .int .i64 0, .bool false] 27))) := Lib.hid Duo7.start
  have HR := Lib.hid hr
  have Hlo := Lib.hid hlo
  have Hn := Lib.hid hn
  clear hr hlo hn
  by_cases h1 : b7E d l.length i = 0
  · obtain ⟨i0, i1⟩ := b7E_in h1
    obtain ⟨k, rfl⟩ := Int.eq_ofNat_of_zero_le i0
    have hk : k < l.length := by omega
    obtain ⟨⟨z, u⟩, hp⟩ : ∃ p, l[k]? = some p := ⟨_, List.getElem?_eq_getElem hk⟩
    have hz : zat l (k : Int) = z := by unfold zat; rw [Int.toNat_natCast, List.getD_eq_getElem?_getD, hp]; rfl
    have hE : rs7E d l (k : Int) = f7E z := by unfold rs7E; rw [if_pos h1, hz]
    have hD : b7R d l.length (k : Int) = { d with n := d.n + 1 } := by unfold b7R; rw [if_pos h1]
    obtain ⟨g, rfl, _, _⟩ := ownK_form HR.out.own (by omega)
    have Hk := Lib.hid hk
    have Hp := Lib.hid hp
    have hu : w.ownsRow lo 33 64 u z.ss.length (flat z.ss) := HR.out.each _ (List.mem_of_getElem? hp)
    obtain ⟨b, cu, rfl⟩ := own_slice hu
    have HU := Lib.hid hu
    clear hu
    have H1 := Lib.hid h1
    have HD := Lib.hid hD
    rw [hE]
    by_cases h2 : f7E z = 0
    · have hL : fn7L d l (k : Int) = l.set k (fn7Z z, .slice b z.ss.length cu) := by unfold fn7L; rw [if_pos (hE.trans h2), Int.toNat_natCast, onz_at hp]
      rw [hL, hD, h2]
      have H2 := Lib.hid h2
      clear h1 h2 hE hD hL hz hp i0 i1
      go_enter Try.func33, Try.ntmps33
      go_upto_region 1 with fail
      generalize ((w.alloc (Obj.cells (d7A d (.slice (some ⟨g, 0, none⟩) l.length cap)) 27)).alloc (Obj.cells #[.slice none 0 0, .int .i64 0, .int .i64 0, .int .i64 0, .bool false] 27)) = w0 at *
      go_wp2_with (first | (refine wpl_load rfl _ rfl (w.heap.size) rfl _ _ _ (HS.out.x) Try.underlying27 rfl Try.info7D ?_; go_frame))
      refine (b7 d (some ⟨g, 0, none⟩) l.length cap (k : Int) _ Hn.out (by omega)).mono ?_
      rintro e w1 ⟨rfl, hb⟩
      rw [H1.out, HD.out]
      have HS1 := Lib.hid (HS.out.below hb)
      clear hb
      go_upto_region 2 with (first | (refine wpl_store rfl _ _ rfl (w.heap.size) (d7A { d with n := d.n + 1 } (.slice (some ⟨g, 0, none⟩) l.length cap)) rfl rfl _ _ HS1.out.x Try.info7D rfl (d7A_one _ _ _ _) ?_; intro w2 hX hK; have HS2 := Lib.hid (HS1.out.newx hX hK); clear hX hK; go_frame))
      have HR2 := Lib.hid (HR.out.below HS2.out.b)
      have c0 := (HS2.out.x.cell 0).trans (show (d7A { d with n := d.n + 1 } (.slice (some ⟨g, 0, none⟩) l.length cap))[0]? = some (.slice (some ⟨g, 0, none⟩) l.length cap) from rfl)
      have HC := Lib.hid (row_range HR2.out.own rfl k _ Hp.out)
      go_upto_region 5 with (first | (refine wpl_load_z (by rfl) _ _ rfl g (k * 4) rfl (z, .slice b z.ss.length cu) _ HC.out Try.underlying87 rfl Try.info7Z ?_; go_frame) | (refine wpl_store_new rfl _ _ rfl (z7A z (.slice b z.ss.length cu)) w2 87 z7Z rfl rfl rfl Try.info7Z rfl (z7A_one _ _ _ _) ?_; go_frame))
      clear c0
      have HYb := Lib.hid (Blk.new w2 87 (z7A z (.slice b z.ss.length cu)))
      have HBb := Lib.hid (below_alloc w2 (Obj.cells (z7A z (.slice b z.ss.length cu)) 87))
      have Hgb := Lib.hid HS2.out.g.lt
      generalize w2.alloc (Obj.cells (z7A z (.slice b z.ss.length cu)) 87) = w2b at *
      go_wp2_with (first | (refine wpl_load rfl _ rfl (w2.heap.size) rfl _ _ _ (HYb.out) Try.underlying87 rfl Try.info7Z ?_; go_frame))
      refine (f7 z (.slice b z.ss.length cu) _).mono ?_
      rintro e w3 ⟨rfl, hb⟩
      rw [H2.out]
      have HB3 := Lib.hid (bthen HBb.out hb)
      have HY3 := Lib.hid (HYb.out.below hb HYb.out.lt)
      have HS3 := Lib.hid (HS2.out.below HB3.out)
      have HR3 := Lib.hid (HR2.out.below HB3.out)
      clear hb HS HS1 HYb HBb HC
      have c2 := (HY3.out.cell 2).trans (show (z7A z (.slice b z.ss.length cu))[2]? = some (.int .i64 z.state) from rfl)
      have f2 := HY3.out.frozen 2
      go_upto_region 8 with fail
      have HB4 := Lib.hid (HB3.out.setCell (p := ⟨w2.heap.size, 2, none⟩) (Nat.le_refl _) (.int .i64 2))
      have HY4 : Hid (Blk (w3.setCell ⟨w2.heap.size, 2, none⟩ (.int .i64 2)) w2.heap.size 87 (z7A { z with state := 2 } (.slice b z.ss.length cu))) := Lib.hid (HY3.out.set 2 _)
      clear c2 f2 HS3 HR3 HY3 HB3
      generalize w3.setCell ⟨w2.heap.size, 2, none⟩ (.int .i64 2) = w4 at *
      have c3 := (HY4.out.cell 3).trans (show (z7A { z with state := 2 } (.slice b z.ss.length cu))[3]? = some (.bool z.fin) from rfl)
      have f3 := HY4.out.frozen 3
      go_upto_region 9 with fail
      have HB5 := Lib.hid (HB4.out.setCell (p := ⟨w2.heap.size, 3, none⟩) (Nat.le_refl _) (.bool true))
      have HY5 : Hid (Blk (w4.setCell ⟨w2.heap.size, 3, none⟩ (.bool true)) w2.heap.size 87 (z7A (fn7Z z) (.slice b z.ss.length cu))) := Lib.hid (HY4.out.set 3 _)
      clear c3 f3 HY4 HB4
      generalize w4.setCell ⟨w2.heap.size, 3, none⟩ (.bool true) = w3 at *
      have HS3 := Lib.hid (HS2.out.below HB5.out)
      have HR3 := Lib.hid (HR2.out.below HB5.out)
      have HU3 := Lib.hid (ownK_below HU.out (HS3.out.b))
      go_wp2_with (first | (refine wpl_load rfl _ rfl (w.heap.size) rfl _ _ _ (HS3.out.x) Try.underlying27 rfl Try.info7D ?_; go_frame) | (refine wpl_load rfl _ rfl (w2.heap.size) rfl _ _ _ (HY5.out) Try.underlying87 rfl Try.info7Z ?_; go_frame))
      refine (p7 { d with n := d.n + 1 } (fn7Z z) k Hk.out (by omega) HR3.out HU3.out (by have := HS3.out.b.size; have := Hlo.out; omega)).mono ?_
      rintro e w4 ⟨v', rfl, hr4, hb⟩
      obtain ⟨a4, c4, hv4⟩ := own_slice hr4.own
      rw [List.length_set] at hv4
      subst hv4
      have HS4 := Lib.hid (HS3.out.below hb)
      have HR4 := Lib.hid hr4
      clear hb hr4
      go_wp2_with (first | (refine wpl_store rfl _ _ rfl (w.heap.size + 1) (d7A { d with n := d.n + 1 } (.slice a4 l.length c4)) rfl rfl _ _ HS4.out.g Try.info7D rfl (d7A_one _ _ _ _) ?_; intro w5 hSg hKg; have HSg := Lib.hid hSg; have HKg := Lib.hid hKg; clear hSg hKg; go_frame))
      have HF := Lib.hid (HS4.out.out HSg.out HKg.out)
      exact bodyPost_ret (v := .tuple #[.agg (d7A { d with n := d.n + 1 } (.slice a4 l.length c4)), .int .i64 0]) (results_cell_slot Try.results33 _ _ (w.heap.size + 1) 27 _ _ _ rfl rfl HF.out.g Try.underlying27 rfl Try.info7D) rfl ⟨_, rfl, HR4.out.keptB HS4.out.g (by decide) (by decide) HKg.out, HF.out.b⟩
    · have hL : fn7L d l (k : Int) = l := by unfold fn7L; rw [if_neg (by rw [hE]; exact h2)]
      rw [hL, hD]
      have h2' : (f7E z != 0) = true := by simpa using h2
      clear h1 h2 hE hD hL hz hp i0 i1
      go_enter Try.func33, Try.ntmps33
      go_upto_region 1 with fail
      generalize ((w.alloc (Obj.cells (d7A d (.slice (some ⟨g, 0, none⟩) l.length cap)) 27)).alloc (Obj.cells #[.slice none 0 0, .int .i64 0, .int .i64 0, .int .i64 0, .bool false] 27)) = w0 at *
      go_wp2_with (first | (refine wpl_load rfl _ rfl (w.heap.size) rfl _ _ _ (HS.out.x) Try.underlying27 rfl Try.info7D ?_; go_frame))
      refine (b7 d (some ⟨g, 0, none⟩) l.length cap (k : Int) _ Hn.out (by omega)).mono ?_
      rintro e w1 ⟨rfl, hb⟩
      rw [H1.out, HD.out]
      have HS1 := Lib.hid (HS.out.below hb)
      clear hb
      go_upto_region 2 with (first | (refine wpl_store rfl _ _ rfl (w.heap.size) (d7A { d with n := d.n + 1 } (.slice (some ⟨g, 0, none⟩) l.length cap)) rfl rfl _ _ HS1.out.x Try.info7D rfl (d7A_one _ _ _ _) ?_; intro w2 hX hK; have HS2 := Lib.hid (HS1.out.newx hX hK); clear hX hK; go_frame))
      have HR2 := Lib.hid (HR.out.below HS2.out.b)
      have c0 := (HS2.out.x.cell 0).trans (show (d7A { d with n := d.n + 1 } (.slice (some ⟨g, 0, none⟩) l.length cap))[0]? = some (.slice (some ⟨g, 0, none⟩) l.length cap) from rfl)
      have HC := Lib.hid (row_range HR2.out.own rfl k _ Hp.out)
      go_upto_region 5 with (first | (refine wpl_load_z (by rfl) _ _ rfl g (k * 4) rfl (z, .slice b z.ss.length cu) _ HC.out Try.underlying87 rfl Try.info7Z ?_; go_frame) | (refine wpl_store_new rfl _ _ rfl (z7A z (.slice b z.ss.length cu)) w2 87 z7Z rfl rfl rfl Try.info7Z rfl (z7A_one _ _ _ _) ?_; go_frame))
      clear c0
      have HYb := Lib.hid (Blk.new w2 87 (z7A z (.slice b z.ss.length cu)))
      have HBb := Lib.hid (below_alloc w2 (Obj.cells (z7A z (.slice b z.ss.length cu)) 87))
      have Hgb := Lib.hid HS2.out.g.lt
      generalize w2.alloc (Obj.cells (z7A z (.slice b z.ss.length cu)) 87) = w2b at *
      go_wp2_with (first | (refine wpl_load rfl _ rfl (w2.heap.size) rfl _ _ _ (HYb.out) Try.underlying87 rfl Try.info7Z ?_; go_frame))
      refine (f7 z (.slice b z.ss.length cu) _).mono ?_
      rintro e w3 ⟨rfl, hb⟩
      have HB3 := Lib.hid (bthen HBb.out hb)
      have HY3 := Lib.hid (HYb.out.below hb HYb.out.lt)
      have HS3 := Lib.hid (HS2.out.below HB3.out)
      have HR3 := Lib.hid (HR2.out.below HB3.out)
      clear hb HS HS1 HYb HBb HC
      go_upto_region 6 with fail
      have Hx := Lib.hid HS3.out.x
      have Hg := Lib.hid HS3.out.g
      refine wp_region_held (S := fun w' => Kept (· = w.heap.size + 1) w3 w') (by kernel_rfl) ?_
      change wpAnyH _ _ _ _ _ _ _ _ (World.drew _)
      have hS : Kept (· = w.heap.size + 1) w3 w3.drew := (Kept.refl _ _).drew
      have hB0 : Below w3.heap.size w3 w3.drew := (Below.refl _ _).drew
      refine takeH hS (i := 0) (d := 26) (v := .agg (d7A { d with n := d.n + 1 } (.slice (some ⟨g, 0, none⟩) l.length cap))) rfl rfl (by kernel_rfl) (by kernel_rfl) (by kernel_rfl) (fun _ _ _ h => h) (Or.inl ⟨by kernel_rfl, fun w' hw' => by exact exec_load _ rfl (w.heap.size) rfl (Hx.out.kept hw' (by omega)) Try.underlying27 rfl (Try.info7D)⟩) ?_
      refine takeH hS (i := 1) (d := 27) (v := .agg (z7A z (.slice b z.ss.length cu))) rfl rfl (by kernel_rfl) (by kernel_rfl) (by kernel_rfl) (fun _ _ _ h => h) (Or.inl ⟨by kernel_rfl, fun w' hw' => by exact exec_load _ rfl (w2.heap.size) rfl (HY3.out.kept hw' (by have := Hgb.out; omega)) Try.underlying87 rfl (Try.info7Z)⟩) ?_
      try go_frame
      refine nextH (i := 2) rfl (by kernel_rfl) (by kernel_rfl) (fun K' hK => ?_)
      go_wp2_with fail
      refine (f7 z (.slice b z.ss.length cu) _).mono ?_
      rintro en w3c1 ⟨rfl, hb⟩
      have hS1 : Kept (· = w.heap.size + 1) w3 w3c1 := kept_next hS hb
      have hB1 : Below w3.heap.size w3 w3c1 := bel_next hB0 hb
      refine hK.out _ _ ⟨hS1, ?_⟩
      clear hK K' hb hS hB0
      refine nextH (i := 3) rfl (by kernel_rfl) (by kernel_rfl) (fun K' hK => ?_)
      refine wpo_store _ _ rfl (w.heap.size + 1) (d7A { d with n := d.n + 1 } (.slice (some ⟨g, 0, none⟩) l.length cap)) rfl rfl _ _ (Hg.out.below hB1 Hg.out.lt) (Try.info7D) (rfl) (d7A_one _ _ _ _) ?_
      intro w3s2 hP2 hq
      have hS2 : Kept (· = w.heap.size + 1) w3 w3s2 := hS1.trans hq
      refine hK.out _ _ ⟨hS2, ?_⟩
      clear hK K' hq hS1
      try go_frame
      refine takeH hS2 (i := 4) (d := 5) (v := .int .i64 (f7E z)) rfl rfl (by kernel_rfl) (by kernel_rfl) (by kernel_rfl) (fun _ _ _ h => h) (Or.inl ⟨by kernel_rfl, fun w' hw' => by kernel_rfl⟩) ?_
      refine wpAnyH_done (by kernel_rfl) ?_ _
      try go_frame
      have HF := Lib.hid (HS3.out.out hP2 hS2)
      have HR4 := Lib.hid (HR3.out.keptB HS3.out.g (by decide) (by decide) hS2)
      clear hS2 hP2
      go_wp2_with fail
      exact bodyPost_ret (v := .tuple #[.agg (d7A { d with n := d.n + 1 } (.slice (some ⟨g, 0, none⟩) l.length cap)), .int .i64 (f7E z)]) (results_cell_slot Try.results33 _ _ (w.heap.size + 1) 27 _ _ _ rfl rfl HF.out.g Try.underlying27 rfl Try.info7D) rfl ⟨_, rfl, HR4.out, HF.out.b⟩
  · have hE : rs7E d l i = b7E d l.length i := by unfold rs7E; rw [if_neg h1]
    have hD : b7R d l.length i = d := by unfold b7R; rw [if_neg h1]
    have hL : fn7L d l i = l := by unfold fn7L; rw [if_neg (by rw [hE]; exact h1)]
    have h1' : (b7E d l.length i != 0) = true := by simpa using h1
    have HD := Lib.hid hD
    rw [hE, hD, hL]
    clear h1 hE hD hL
    go_enter Try.func33, Try.ntmps33
    go_upto_region 1 with fail
    generalize ((w.alloc (Obj.cells (d7A d (.slice a l.length cap)) 27)).alloc (Obj.cells #[.slice none 0 0, .int .i64 0, .int .i64 0, .int .i64 0, .bool false] 27)) = w0 at *
    go_wp2_with (first | (refine wpl_load rfl _ rfl (w.heap.size) rfl _ _ _ (HS.out.x) Try.underlying27 rfl Try.info7D ?_; go_frame))
    refine (b7 d a l.length cap i _ Hn.out hl).mono ?_
    rintro e w1 ⟨rfl, hb⟩
    rw [HD.out]
    have HS1 := Lib.hid (HS.out.below hb)
    clear hb
    go_upto_region 2 with (first | (refine wpl_store rfl _ _ rfl (w.heap.size) (d7A d (.slice a l.length cap)) rfl rfl _ _ HS1.out.x Try.info7D rfl (d7A_one _ _ _ _) ?_; intro w2 hX hK; have HS2 := Lib.hid (HS1.out.newx hX hK); clear hX hK; go_frame))
    go_wp2_with (first | (refine wpl_load rfl _ rfl (w.heap.size) rfl _ _ _ (HS2.out.x) Try.underlying27 rfl Try.info7D ?_; go_frame) | (refine wpl_store rfl _ _ rfl (w.heap.size + 1) (d7A d (.slice a l.length cap)) rfl rfl _ _ HS2.out.g Try.info7D rfl (d7A_one _ _ _ _) ?_; intro w5 hSg hKg; have HSg := Lib.hid hSg; have HKg := Lib.hid hKg; clear hSg hKg; go_frame))
    have HF := Lib.hid (HS2.out.out HSg.out HKg.out)
    exact bodyPost_ret (v := .tuple #[.agg (d7A d (.slice a l.length cap)), .int .i64 (b7E d l.length i)]) (results_cell_slot Try.results33 _ _ (w.heap.size + 1) 27 _ _ _ rfl rfl HF.out.g Try.underlying27 rfl Try.info7D) rfl ⟨_, rfl, HR.out.below HF.out.b, HF.out.b⟩
end Go.Proofs.Ytajkajgnjcnolaa

namespace Go.Proofs.Ytajkajgnjcnolaa
open Go.RowKit
set_option linter.unusedVariables false
set_option linter.unnecessarySimpa false
set_option linter.unusedSimpArgs false
def fl7E (d : R7d) : Int := if d.down = true then 34 else 0
def fl7R (d : R7d) : R7d := if d.down = true then d else { d with n := d.n + 1 }
def fl7Z (p : R7z × Value) : R7z × Value := ({ p.1 with safe := (p.1.ss.length : Int) }, p.2)
def upto (f : R7z × Value → R7z × Value) (l : List (R7z × Value)) (j : Nat) : List (R7z × Value) := (l.take j).map f ++ l.drop j
def fl7L (d : R7d) (l : List (R7z × Value)) : List (R7z × Value) := if d.down = true then l else l.map fl7Z
theorem upto_length (f : R7z × Value → R7z × Value) (l : List (R7z × Value)) (j : Nat) (hj : j ≤ l.length) : (upto f l j).length = l.length := by
  simp [upto]; omega
theorem upto_at (f : R7z × Value → R7z × Value) (l : List (R7z × Value)) (j : Nat) (hj : j < l.length) : (upto f l j)[j]? = l[j]? := by
  unfold upto
  rw [List.getElem?_append_right (by simp; omega), List.length_map, List.length_take, Nat.min_eq_left (by omega), Nat.sub_self, List.getElem?_drop, Nat.add_zero]
theorem upto_set (f : R7z × Value → R7z × Value) (l : List (R7z × Value)) (j : Nat) (p : R7z × Value) (hp : l[j]? = some p) : (upto f l j).set j (f p) = upto f l (j + 1) := by
  obtain ⟨hj, hp'⟩ := List.getElem?_eq_some_iff.1 hp
  unfold upto
  rw [List.set_append_right _ _ (by simp; omega), List.length_map, List.length_take, Nat.min_eq_left (by omega), Nat.sub_self, List.drop_eq_getElem_cons hj, List.set_cons_zero, List.take_add_one, hp, List.map_append]
  simp
set_option maxRecDepth 100000 in
set_option maxHeartbeats 4000000 in
theorem fl7 {lo : Nat} {w : World} {v : Value} {l : List (R7z × Value)} (d : R7d) (hn : 0 ≤ d.n ∧ d.n ≤ 1000000) (hl : l.length ≤ 1000) (h64 : ∀ p ∈ l, p.1.ss.length ≤ 1000) (hr : Row7 lo w v l) (hlo : lo ≤ w.heap.size) :
    Calls Try.prog 35 #[.agg (d7A d v)] w fun e w' => ∃ v', e = .returned (.tuple #[.agg (d7A (fl7R d) v'), .int .i64 (fl7E d)]) ∧ Row7 lo w' v' (fl7L d l) ∧ Below w.heap.size w w' := by
  obtain ⟨a, cap, rfl⟩ := own_slice hr.own
  obtain ⟨_, k1, k2⟩ := ownK_cap hr.own
  unfold maxLen at k2
  have HS : Hid (Duo7 27 27 w (d7A d (.slice a l.length cap)) d7Z ((w.alloc (Obj.cells (d7A d (.slice a l.length cap)) 27)).alloc (Obj.cells #[.slice none 0 0, .int .i64 0, .int .i64 0, .int .i64 0, .bool false] 27))) := Lib.hid Duo7.start
  have HR := Lib.hid hr
  have Hlo := Lib.hid hlo
  have H64 := Lib.hid h64
  clear hr hlo h64
  by_cases h1 : d.down = true
  · have hE : fl7E d = 34 := by unfold fl7E; rw [if_pos h1]
    have hD : fl7R d = d := by unfold fl7R; rw [if_pos h1]
    have hL : fl7L d l = l := by unfold fl7L; rw [if_pos h1]
    rw [hE, hD, hL]
    have c4 := (HS.out.x.cell 4).trans (show (d7A d (.slice a l.length cap))[4]? = some (.bool d.down) from rfl)
    rw [h1] at c4
    clear h1 hE hD hL
    go_enter Try.func35, Try.ntmps35
    go_upto_region 1 with fail
    generalize ((w.alloc (Obj.cells (d7A d (.slice a l.length cap)) 27)).alloc (Obj.cells #[.slice none 0 0, .int .i64 0, .int .i64 0, .int .i64 0, .bool false] 27)) = w0 at *
    go_wp2_with (first | (refine wpl_load rfl _ rfl (w.heap.size) rfl _ _ _ (HS.out.x) Try.underlying27 rfl Try.info7D ?_; go_frame) | (refine wpl_store rfl _ _ rfl (w.heap.size + 1) (d7A d (.slice a l.length cap)) rfl rfl _ _ HS.out.g Try.info7D rfl (d7A_one _ _ _ _) ?_; intro w5 hSg hKg; have HSg := Lib.hid hSg; have HKg := Lib.hid hKg; clear hSg hKg; go_frame))
    have HF := Lib.hid (HS.out.out HSg.out HKg.out)
    exact bodyPost_ret (v := .tuple #[.agg (d7A d (.slice a l.length cap)), .int .i64 34]) (results_cell_slot Try.results35 _ _ (w.heap.size + 1) 27 _ _ _ rfl rfl HF.out.g Try.underlying27 rfl Try.info7D) rfl ⟨_, rfl, HR.out.below HF.out.b, HF.out.b⟩
  · have hE : fl7E d = 0 := by unfold fl7E; rw [if_neg h1]
    have hD : fl7R d = { d with n := d.n + 1 } := by unfold fl7R; rw [if_neg h1]
    have hL : fl7L d l = l.map fl7Z := by unfold fl7L; rw [if_neg h1]
    rw [hE, hD, hL]
    have h1' : d.down = false := by simpa using h1
    have c4 := (HS.out.x.cell 4).trans (show (d7A d (.slice a l.length cap))[4]? = some (.bool d.down) from rfl)
    rw [h1'] at c4
    have c3 := (HS.out.x.cell 3).trans (show (d7A d (.slice a l.length cap))[3]? = some (.int .i64 d.n) from rfl)
    have f3 := HS.out.x.frozen 3
    clear h1 h1' hE hD hL
    go_enter Try.func35, Try.ntmps35
    go_upto_region 1 with fail
    generalize ((w.alloc (Obj.cells (d7A d (.slice a l.length cap)) 27)).alloc (Obj.cells #[.slice none 0 0, .int .i64 0, .int .i64 0, .int .i64 0, .bool false] 27)) = w0 at *
    go_upto_region 4 with fail
    have HS1 : Hid (Duo7 27 27 w (d7A { d with n := d.n + 1 } (.slice a l.length cap)) d7Z (w0.setCell ⟨w.heap.size, 3, none⟩ (.int .i64 (d.n + 1)))) := Lib.hid (HS.out.set 3 _)
    clear c3 c4 f3
    generalize w0.setCell ⟨w.heap.size, 3, none⟩ (.int .i64 (d.n + 1)) = w1 at *
    go_wp2_with fail
    go_loopw [4] (fun i wr => ∃ j : Nat, j ≤ l.length ∧ i = .int .i64 j ∧ ∃ v', Duo7 27 27 w (d7A { d with n := d.n + 1 } v') d7Z wr ∧ Row7 lo wr v' (upto fl7Z l j)) (fun i _ => l.length - (intOf i).toNat)
    case atStart => exact ⟨0, Nat.zero_le _, rfl, _, HS1.out, by rw [show upto fl7Z l 0 = l by simp [upto]]; exact HR.out.below HS1.out.b⟩
    case round =>
      rename_i v0
      obtain ⟨j, hj, rfl, v', hS, hR⟩ := hrel
      have hlen := upto_length fl7Z l j hj
      obtain ⟨a1, cap1, hv1⟩ := own_slice hR.own
      rw [hlen] at hv1
      subst hv1
      obtain ⟨-, q1, q2⟩ := ownK_cap hR.own
      unfold maxLen at q2
      have c0 : wr.cell? ⟨w.heap.size, 0, none⟩ = some (.slice a1 l.length cap1) := (hS.x.cell 0).trans rfl
      have HSr := Lib.hid hS
      have HRr := Lib.hid hR
      clear hS hR HS HS1
      rw [hlen] at q1
      by_cases hlt : j < l.length
      · obtain ⟨p, hp⟩ : ∃ p, l[j]? = some p := ⟨_, List.getElem?_eq_getElem hlt⟩
        have hpj := (upto_at fl7Z l j hlt).trans hp
        have hst := upto_set fl7Z l j p hp
        have hs64 := H64.out p (List.mem_of_getElem? hp)
        obtain ⟨z, u⟩ := p
        have hu : wr.ownsRow lo 33 64 u z.ss.length (flat z.ss) := HRr.out.each _ (List.mem_of_getElem? hpj)
        obtain ⟨b, cu, rfl⟩ := own_slice hu
        obtain ⟨g, rfl, _, _⟩ := ownK_form HRr.out.own (by omega)
        have hown : wr.ownsRow lo 87 4 (.slice (some ⟨g, 0, none⟩) l.length cap1) l.length (zrow (upto fl7Z l j)) := by have h := HRr.out.own; rwa [hlen] at h
        have HC := Lib.hid (row_range hown hlen j _ hpj)
        have HU := Lib.hid hu
        have Hst := Lib.hid hst
        have Hlen := Lib.hid hlen
        have Hlt := Lib.hid hlt
        have hs64' : z.ss.length ≤ 1000 := hs64
        clear hp hpj hst hu hown hlen hs64
        go_upto_region 8 with (first | (refine wpl_load_z (by rfl) _ _ rfl g (j * 4) rfl (z, .slice b z.ss.length cu) _ HC.out Try.underlying87 rfl Try.info7Z ?_; go_frame) | (refine wpl_store_new rfl _ _ rfl (z7A z (.slice b z.ss.length cu)) wr 87 z7Z rfl rfl rfl Try.info7Z rfl (z7A_one _ _ _ _) ?_; go_frame))
        have HY := Lib.hid (Blk.new wr 87 (z7A z (.slice b z.ss.length cu)))
        have Hb := Lib.hid (below_alloc wr (Obj.cells (z7A z (.slice b z.ss.length cu)) 87))
        clear c0
        generalize wr.alloc (Obj.cells (z7A z (.slice b z.ss.length cu)) 87) = w1 at *
        have c0 := (HY.out.cell 0).trans (show (z7A z (.slice b z.ss.length cu))[0]? = some (.slice b z.ss.length cu) from rfl)
        have c1 := (HY.out.cell 1).trans (show (z7A z (.slice b z.ss.length cu))[1]? = some (.int .i64 z.safe) from rfl)
        have f1 := HY.out.frozen 1
        go_upto_region 9 with fail
        have hB2 := Hb.out.setCell (p := ⟨wr.heap.size, 1, none⟩) (Nat.le_refl _) (.int .i64 (z.ss.length : Nat))
        have HY2 : Hid (Blk (w1.setCell ⟨wr.heap.size, 1, none⟩ (.int .i64 (z.ss.length : Nat))) wr.heap.size 87 (z7A { z with safe := (z.ss.length : Int) } (.slice b z.ss.length cu))) := Lib.hid (HY.out.set 1 _)
        have HS2 := Lib.hid (HSr.out.below hB2)
        have HR2 := Lib.hid (HRr.out.below hB2)
        have HU2 := Lib.hid (ownK_below HU.out hB2)
        clear c0 c1 f1 hB2
        generalize w1.setCell ⟨wr.heap.size, 1, none⟩ (.int .i64 (z.ss.length : Nat)) = w2 at *
        go_wp2_with (first | (refine wpl_load rfl _ rfl (w.heap.size) rfl _ _ _ (HS2.out.x) Try.underlying27 rfl Try.info7D ?_; go_frame) | (refine wpl_load rfl _ rfl (wr.heap.size) rfl _ _ _ (HY2.out) Try.underlying87 rfl Try.info7Z ?_; go_frame))
        refine (p7 { d with n := d.n + 1 } { z with safe := (z.ss.length : Int) } j (by rw [Hlen.out]; exact Hlt.out) (by rw [Hlen.out]; exact hl) HR2.out HU2.out (by have := HS2.out.b.size; have := Hlo.out; omega)).mono ?_
        rintro e w4 ⟨v', rfl, hr4, hb⟩
        obtain ⟨a4, c4, hv4⟩ := own_slice hr4.own
        rw [List.length_set, Hlen.out] at hv4
        subst hv4
        have HS4 := Lib.hid (HS2.out.below hb)
        have HR4 := Lib.hid hr4
        clear hb hr4
        go_wp2_with (first | (refine wpl_store rfl _ _ rfl (w.heap.size) (d7A { d with n := d.n + 1 } (.slice a4 l.length c4)) rfl rfl _ _ HS4.out.x Try.info7D rfl (d7A_one _ _ _ _) ?_; intro w5 hX hK; have HS5 := Lib.hid (HS4.out.newx hX hK); have HR5 := Lib.hid (HR4.out.keptB HS4.out.x (by decide) (by decide) hK); clear hX hK; go_frame))
        go_roundw
        case rel => exact ⟨j + 1, by omega, by go_num, _, HS5.out, by rw [← Hst.out]; exact HR5.out⟩
        case measure => simp [intOf]; omega
      · obtain rfl : j = l.length := by omega
        have hall : upto fl7Z l l.length = l.map fl7Z := by simp [upto]
        rw [hall] at HRr
        have HRm := Lib.hid HRr.out
        clear hall hlen
        go_wp2_with (first | (refine wpl_load rfl _ rfl (w.heap.size) rfl _ _ _ (HSr.out.x) Try.underlying27 rfl Try.info7D ?_; go_frame) | (refine wpl_store rfl _ _ rfl (w.heap.size + 1) (d7A { d with n := d.n + 1 } (.slice a1 l.length cap1)) rfl rfl _ _ HSr.out.g Try.info7D rfl (d7A_one _ _ _ _) ?_; intro w5 hSg hKg; have HSg := Lib.hid hSg; have HKg := Lib.hid hKg; clear hSg hKg; go_frame))
        have HF := Lib.hid (HSr.out.out HSg.out HKg.out)
        exact bodyPost_ret (v := .tuple #[.agg (d7A { d with n := d.n + 1 } (.slice a1 l.length cap1)), .int .i64 0]) (results_cell_slot Try.results35 _ _ (w.heap.size + 1) 27 _ _ _ rfl rfl HF.out.g Try.underlying27 rfl Try.info7D) rfl ⟨_, rfl, HRm.out.keptB HSr.out.g (by decide) (by decide) HKg.out, HF.out.b⟩
end Go.Proofs.Ytajkajgnjcnolaa

