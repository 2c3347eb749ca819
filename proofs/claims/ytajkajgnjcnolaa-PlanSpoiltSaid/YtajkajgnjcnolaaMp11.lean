import Derived.Test.YtajkajgnjcnolaaMp09
import Derived.Test.YtajkajgnjcnolaaMp10
namespace Go.Proofs.Ytajkajgnjcnolaa
open Go.RowKit
set_option linter.unusedVariables false
set_option linter.unnecessarySimpa false
set_option linter.unusedSimpArgs false
theorem zero_s64 (w : World) : (zeroValue 33).run Try.prog w = .ok (.agg (bA (zeros 64))) w := by kernel_rfl
section
variable {T T' U : TypeId} {w0 w w' : World} {c c' q : Array Value}
theorem Trio7.below (h : Trio7 T T' U w0 c c' q w) (hb : Below w.heap.size w w') : Trio7 T T' U w0 c c' q w' := ⟨h.x.below hb h.x.lt, h.y.below hb h.y.lt, h.g.below hb h.g.lt, bthen h.b hb⟩
theorem Trio7.newx {c2 : Array Value} (h : Trio7 T T' U w0 c c' q w) (hg : Blk w' w0.heap.size T c2) (hk : Kept (· = w0.heap.size) w w') : Trio7 T T' U w0 c2 c' q w' :=
  ⟨hg, h.y.kept hk (by simp), h.g.kept hk (by simp), bkept h.b (Nat.le_refl _) hk (fun i hi e => by omega)⟩
theorem Trio7.newy {c2 : Array Value} (h : Trio7 T T' U w0 c c' q w) (hg : Blk w' (w0.heap.size + 1) T' c2) (hk : Kept (· = w0.heap.size + 1) w w') : Trio7 T T' U w0 c c2 q w' :=
  ⟨h.x.kept hk (by simp), hg, h.g.kept hk (by simp), bkept h.b (Nat.le_refl _) hk (fun i hi e => by omega)⟩
end
theorem Row7.keptN {lo g : Nat} {w0 w w' : World} {v : Value} {l : List (R7z × Value)} (h : Row7 lo w v l) (h0 : Row7 lo w0 v l) (hY : w0.heap.size ≤ g) (hk : Kept (· = g) w w') : Row7 lo w' v l :=
  ⟨own_kept h.own hk (fun k hk' e => by have := own_lt h0.own hk'; omega), fun p hp => own_kept (h.each p hp) hk (fun k hk' e => by have := own_lt (h0.each p hp) hk'; omega)⟩
def ap7Z (size : Int) (z : R7z) (s : List Nat) : R7z := { z with ss := z.ss ++ [s], state := if ((z.ss.length + 1 : Nat) : Int) = size then 2 else 1 }
def ap7P (lo : Nat) (w : World) (l' : Value → List (R7z × Value)) (d : R7d) (o e0 : Int) (e : Ending) (w' : World) : Prop :=
  ∃ v' u', e = .returned (.tuple #[.agg (d7A d v'), .int .i64 o, .int .i64 e0]) ∧ Row7 lo w' v' (l' u') ∧ Below w.heap.size w w'
set_option maxRecDepth 100000 in
set_option maxHeartbeats 2000000 in
theorem ap7_no {lo : Nat} {w : World} {v : Value} {l : List (R7z × Value)} (d : R7d) (i : Int) (s : List Nat) (hn : 0 ≤ d.n ∧ d.n ≤ 1000000) (hl : l.length ≤ 1000) (hr : Row7 lo w v l) (h1 : b7E d l.length i ≠ 0) :
    Calls Try.prog 28 #[.agg (d7A d v), .int .i64 i, .agg (bA s)] w (ap7P lo w (fun _ => l) d 0 (b7E d l.length i)) := by
  obtain ⟨a, cap, rfl⟩ := own_slice hr.own
  have hD : b7R d l.length i = d := by unfold b7R; rw [if_neg h1]
  have h1' : (b7E d l.length i != 0) = true := by simpa using h1
  have HD := Lib.hid hD
  have HS : Hid (Trio7 27 33 27 w (d7A d (.slice a l.length cap)) (bA s) d7Z (((w.alloc (Obj.cells (d7A d (.slice a l.length cap)) 27)).alloc (Obj.cells (bA s) 33)).alloc (Obj.cells #[.slice none 0 0, .int .i64 0, .int .i64 0, .int .i64 0, .bool false] 27))) := Lib.hid Trio7.start
  have HR := Lib.hid hr
  have Hn := Lib.hid hn
  clear h1 hD hr hn
  go_enter Try.func28, Try.ntmps28
  go_upto_region 1 with fail
  generalize (((w.alloc (Obj.cells (d7A d (.slice a l.length cap)) 27)).alloc (Obj.cells (bA s) 33)).alloc (Obj.cells #[.slice none 0 0, .int .i64 0, .int .i64 0, .int .i64 0, .bool false] 27)) = w0 at *
  go_wp2_with (first | (refine wpl_load rfl _ rfl (w.heap.size) rfl _ _ _ (HS.out.x) Try.underlying27 rfl Try.info7D ?_; go_frame))
  refine (b7 d a l.length cap i _ Hn.out hl).mono ?_
  rintro e w1 ⟨rfl, hb⟩
  rw [HD.out]
  have HS1 := Lib.hid (HS.out.below hb)
  clear hb
  go_upto_region 2 with (first | (refine wpl_store rfl _ _ rfl (w.heap.size) (d7A d (.slice a l.length cap)) rfl rfl _ _ HS1.out.x Try.info7D rfl (d7A_one _ _ _ _) ?_; intro w2 hX hK; have HS2 := Lib.hid (HS1.out.newx hX hK); clear hX hK; go_frame))
  go_wp2_with (first | (refine wpl_load rfl _ rfl (w.heap.size) rfl _ _ _ (HS2.out.x) Try.underlying27 rfl Try.info7D ?_; go_frame) | (refine wpl_store rfl _ _ rfl (w.heap.size + 2) (d7A d (.slice a l.length cap)) rfl rfl _ _ HS2.out.g Try.info7D rfl (d7A_one _ _ _ _) ?_; intro w5 hSg hKg; have HSg := Lib.hid hSg; have HKg := Lib.hid hKg; clear hSg hKg; go_frame))
  have HF := Lib.hid (HS2.out.out HSg.out HKg.out)
  exact bodyPost_ret (v := .tuple #[.agg (d7A d (.slice a l.length cap)), .int .i64 (0), .int .i64 (b7E d l.length i)]) (results_cell_slot2 Try.results28 _ _ (w.heap.size + 2) 27 _ _ _ _ rfl rfl rfl HF.out.g Try.underlying27 rfl Try.info7D) rfl ⟨_, .slice none 0 0, rfl, HR.out.below HF.out.b, HF.out.b⟩
set_option maxRecDepth 100000 in
set_option maxHeartbeats 4000000 in
theorem ap7_full {lo : Nat} {w : World} {v u : Value} {l : List (R7z × Value)} {k : Nat} {z : R7z} (d : R7d) (s : List Nat) (hs : s.length = 64) (hn : 0 ≤ d.n ∧ d.n ≤ 1000000) (hl : l.length ≤ 1000) (hz64 : z.ss.length ≤ 1000) (hr : Row7 lo w v l) (hlo : lo ≤ w.heap.size) (hp : l[k]? = some (z, u)) (h1 : b7E d l.length (k : Int) = 0) (h2 : z.state = 0) (h3 : d.opn ≤ (op7 l : Int)) :
    Calls Try.prog 28 #[.agg (d7A d v), .int .i64 (k : Nat), .agg (bA s)] w (ap7P lo w (fun _ => l) { d with n := d.n + 1 } 0 33) := by
  obtain ⟨a, cap, rfl⟩ := own_slice hr.own
  obtain ⟨-, k1, k2⟩ := ownK_cap hr.own
  unfold maxLen at k2
  have hk : k < l.length := (List.getElem?_eq_some_iff.1 hp).1
  have hD : b7R d l.length (k : Int) = { d with n := d.n + 1 } := by unfold b7R; rw [if_pos h1]
  obtain ⟨g, rfl, _, _⟩ := ownK_form hr.own (by omega)
  have hu : w.ownsRow lo 33 64 u z.ss.length (flat z.ss) := hr.each _ (List.mem_of_getElem? hp)
  obtain ⟨b, cu, rfl⟩ := own_slice hu
  obtain ⟨-, q1, q2⟩ := ownK_cap hu
  unfold maxLen at q2
  have HS : Hid (Trio7 27 33 27 w (d7A d (.slice (some ⟨g, 0, none⟩) l.length cap)) (bA s) d7Z (((w.alloc (Obj.cells (d7A d (.slice (some ⟨g, 0, none⟩) l.length cap)) 27)).alloc (Obj.cells (bA s) 33)).alloc (Obj.cells #[.slice none 0 0, .int .i64 0, .int .i64 0, .int .i64 0, .bool false] 27))) := Lib.hid Trio7.start
  have HR := Lib.hid hr
  have HU := Lib.hid hu
  have Hlo := Lib.hid hlo
  have Hn := Lib.hid hn
  have Hk := Lib.hid hk
  have Hp := Lib.hid hp
  have H1 := Lib.hid h1
  have HD := Lib.hid hD
  have Hs := Lib.hid hs
  clear hr hu hlo hn hp h1 hD hs
  go_enter Try.func28, Try.ntmps28
  go_upto_region 1 with fail
  generalize (((w.alloc (Obj.cells (d7A d (.slice (some ⟨g, 0, none⟩) l.length cap)) 27)).alloc (Obj.cells (bA s) 33)).alloc (Obj.cells #[.slice none 0 0, .int .i64 0, .int .i64 0, .int .i64 0, .bool false] 27)) = w0 at *
  go_wp2_with (first | (refine wpl_load rfl _ rfl (w.heap.size) rfl _ _ _ (HS.out.x) Try.underlying27 rfl Try.info7D ?_; go_frame))
  refine (b7 d (some ⟨g, 0, none⟩) l.length cap (k : Int) _ Hn.out hl).mono ?_
  rintro e w1 ⟨rfl, hb⟩
  rw [H1.out, HD.out]
  have HS1 := Lib.hid (HS.out.below hb)
  clear hb
  go_upto_region 2 with (first | (refine wpl_store rfl _ _ rfl (w.heap.size) (d7A { d with n := d.n + 1 } (.slice (some ⟨g, 0, none⟩) l.length cap)) rfl rfl _ _ HS1.out.x Try.info7D rfl (d7A_one _ _ _ _) ?_; intro w2 hX hK; have HS2 := Lib.hid (HS1.out.newx hX hK); clear hX hK; go_frame))
  have HR2 := Lib.hid (HR.out.below HS2.out.b)
  have c0 := (HS2.out.x.cell 0).trans (show (d7A { d with n := d.n + 1 } (.slice (some ⟨g, 0, none⟩) l.length cap))[0]? = some (.slice (some ⟨g, 0, none⟩) l.length cap) from rfl)
  have HC := Lib.hid (row_range HR2.out.own rfl k _ Hp.out)
  go_upto_region 5 with (first | (refine wpl_load_z (by rfl) _ _ rfl g (k * 4) rfl (z, .slice b z.ss.length cu) _ HC.out Try.underlying87 rfl Try.info7Z ?_; go_frame) | (refine wpl_store_new rfl _ _ rfl (z7A z (.slice b z.ss.length cu)) w2 87 z7Z rfl rfl rfl Try.info7Z rfl (z7A_one _ _ _ _) ?_; go_frame))
  clear c0
  have HY := Lib.hid (Blk.new w2 87 (z7A z (.slice b z.ss.length cu)))
  have HB := below_alloc w2 (Obj.cells (z7A z (.slice b z.ss.length cu)) 87)
  have HS3 := Lib.hid (HS2.out.below HB)
  have HR3 := Lib.hid (HR2.out.below HB)
  have HU3 := Lib.hid (ownK_below (ownK_below HU.out HS2.out.b) HB)
  have Hgy := Lib.hid HS2.out.g.lt
  clear HB HS HS1 HR2 HC
  generalize w2.alloc (Obj.cells (z7A z (.slice b z.ss.length cu)) 87) = w3 at *
  generalize w2.heap.size = Y at *
  have Hst := Lib.hid h2
  have Hop := Lib.hid h3
  clear h2 h3
  have HX := Lib.hid HS3.out.x
  refine wp_region_held (S := fun w' => Below w3.heap.size w3 w') (by kernel_rfl) ?_
  change wpAnyH _ _ _ _ _ _ _ _ (World.drew _)
  have hS : Below w3.heap.size w3 w3.drew := (Below.refl _ _).drew
  refine takeH hS (i := 0) (d := 27) (v := .pointer (some ⟨Y, 2, none⟩)) rfl rfl (by kernel_rfl) (by kernel_rfl) (by kernel_rfl) (fun _ _ _ h => h) (Or.inl ⟨by kernel_rfl, fun w' hw' => by kernel_rfl⟩) ?_
  refine takeH hS (i := 1) (d := 28) (v := .int .i64 (z.state)) rfl rfl (by kernel_rfl) (by kernel_rfl) (by kernel_rfl) (fun _ _ _ h => h) (Or.inl ⟨by kernel_rfl, fun w' hw' => by exact exec_cell _ rfl ⟨Y, 2, none⟩ rfl _ Try.underlying3 (((HY.out.below hw' HY.out.lt).cell 2).trans (rfl))⟩) ?_
  refine takeH hS (i := 2) (d := 29) (v := .bool true) rfl rfl (by kernel_rfl) (by kernel_rfl) (by kernel_rfl) (fun _ _ _ h => h) (Or.inl ⟨by kernel_rfl, fun w' hw' => by exact exec_eql _ _ rfl (z.state) (0) rfl rfl true (decide_eq_true Hst.out) rfl⟩) ?_
  refine takeH hS (i := 3) (d := 30) (v := .bool true) rfl rfl (by kernel_rfl) (by kernel_rfl) (by kernel_rfl) (fun _ _ _ h => h) (Or.inl ⟨by kernel_rfl, fun w' hw' => by kernel_rfl⟩) ?_
  try go_frame
  refine takeH hS (i := 4) (d := 31) (v := .agg (d7A { d with n := d.n + 1 } (.slice (some ⟨g, 0, none⟩) l.length cap))) rfl rfl (by kernel_rfl) (by kernel_rfl) (by kernel_rfl) (fun _ _ _ h => h) (Or.inl ⟨by kernel_rfl, fun w' hw' => by exact exec_load _ rfl (w.heap.size) rfl (HX.out.below hw' HX.out.lt) Try.underlying27 rfl (Try.info7D)⟩) ?_
  refine takeH hS (i := 6) (d := 33) (v := .pointer (some ⟨w.heap.size, 2, none⟩)) rfl rfl (by kernel_rfl) (by kernel_rfl) (by kernel_rfl) (fun _ _ _ h => h) (Or.inl ⟨by kernel_rfl, fun w' hw' => by kernel_rfl⟩) ?_
  refine takeH hS (i := 7) (d := 34) (v := .int .i64 (d.opn)) rfl rfl (by kernel_rfl) (by kernel_rfl) (by kernel_rfl) (fun _ _ _ h => h) (Or.inl ⟨by kernel_rfl, fun w' hw' => by exact exec_cell _ rfl ⟨w.heap.size, 2, none⟩ rfl _ Try.underlying3 (((HX.out.below hw' HX.out.lt).cell 2).trans (rfl))⟩) ?_
  try go_frame
  refine nextH (i := 5) rfl (by kernel_rfl) (by kernel_rfl) (fun K' hK => ?_)
  go_wp2_with fail
  refine (o7 { d with n := d.n + 1 } (by omega) (HR3.out.below hS)).mono ?_
  rintro en w3c1 ⟨rfl, hb⟩
  have hS1 : Below w3.heap.size w3 w3c1 := bel_next hS hb
  refine hK.out _ _ ⟨hS1, ?_⟩
  clear hK K' hb hS
  refine takeH hS1 (i := 8) (d := 35) (v := .bool true) rfl rfl (by kernel_rfl) (by kernel_rfl) (by kernel_rfl) (fun _ _ _ h => h) (Or.inl ⟨by kernel_rfl, fun w' hw' => by exact exec_geq _ _ rfl ((op7 l : Nat)) (d.opn) rfl rfl true (decide_eq_true Hop.out) rfl⟩) ?_
  refine takeH hS1 (i := 9) (d := 36) (v := .bool true) rfl rfl (by kernel_rfl) (by kernel_rfl) (by kernel_rfl) (fun _ _ _ h => h) (Or.inl ⟨by kernel_rfl, fun w' hw' => by kernel_rfl⟩) ?_
  refine wpAnyH_done (by kernel_rfl) ?_ _
  try go_frame
  have HS4 := Lib.hid (HS3.out.below hS1)
  have HY4 := Lib.hid (HY.out.below hS1 HY.out.lt)
  have HR4 := Lib.hid (HR3.out.below hS1)
  have HU4 := Lib.hid (ownK_below HU3.out hS1)
  clear hS1 HS3 HY HR3 HU3 HX
  go_wp2_with (first | (refine wpl_load rfl _ rfl (w.heap.size) rfl _ _ _ (HS4.out.x) Try.underlying27 rfl Try.info7D ?_; go_frame) | (refine wpl_store rfl _ _ rfl (w.heap.size + 2) (d7A { d with n := d.n + 1 } (.slice (some ⟨g, 0, none⟩) l.length cap)) rfl rfl _ _ HS4.out.g Try.info7D rfl (d7A_one _ _ _ _) ?_; intro w5 hSg hKg; have HSg := Lib.hid hSg; have HKg := Lib.hid hKg; clear hSg hKg; go_frame))
  have HF := Lib.hid (HS4.out.out HSg.out HKg.out)
  exact bodyPost_ret (v := .tuple #[.agg (d7A { d with n := d.n + 1 } (.slice (some ⟨g, 0, none⟩) l.length cap)), .int .i64 (0), .int .i64 (33)]) (results_cell_slot2 Try.results28 _ _ (w.heap.size + 2) 27 _ _ _ _ rfl rfl rfl HF.out.g Try.underlying27 rfl Try.info7D) rfl ⟨_, .slice none 0 0, rfl, HR4.out.keptB HS4.out.g (by decide) (by decide) HKg.out, HF.out.b⟩
set_option maxRecDepth 100000 in
set_option maxHeartbeats 4000000 in
theorem ap7_ref {lo : Nat} {w : World} {v u : Value} {l : List (R7z × Value)} {k : Nat} {z : R7z} (d : R7d) (s : List Nat) (hs : s.length = 64) (hn : 0 ≤ d.n ∧ d.n ≤ 1000000) (hl : l.length ≤ 1000) (hz64 : z.ss.length ≤ 1000) (hr : Row7 lo w v l) (hlo : lo ≤ w.heap.size) (hp : l[k]? = some (z, u)) (h1 : b7E d l.length (k : Int) = 0) (h2 : z.state ≠ 0) (h3 : f7E z ≠ 0) :
    Calls Try.prog 28 #[.agg (d7A d v), .int .i64 (k : Nat), .agg (bA s)] w (ap7P lo w (fun _ => l) { d with n := d.n + 1 } 0 (f7E z)) := by
  obtain ⟨a, cap, rfl⟩ := own_slice hr.own
  obtain ⟨-, k1, k2⟩ := ownK_cap hr.own
  unfold maxLen at k2
  have hk : k < l.length := (List.getElem?_eq_some_iff.1 hp).1
  have hD : b7R d l.length (k : Int) = { d with n := d.n + 1 } := by unfold b7R; rw [if_pos h1]
  obtain ⟨g, rfl, _, _⟩ := ownK_form hr.own (by omega)
  have hu : w.ownsRow lo 33 64 u z.ss.length (flat z.ss) := hr.each _ (List.mem_of_getElem? hp)
  obtain ⟨b, cu, rfl⟩ := own_slice hu
  obtain ⟨-, q1, q2⟩ := ownK_cap hu
  unfold maxLen at q2
  have HS : Hid (Trio7 27 33 27 w (d7A d (.slice (some ⟨g, 0, none⟩) l.length cap)) (bA s) d7Z (((w.alloc (Obj.cells (d7A d (.slice (some ⟨g, 0, none⟩) l.length cap)) 27)).alloc (Obj.cells (bA s) 33)).alloc (Obj.cells #[.slice none 0 0, .int .i64 0, .int .i64 0, .int .i64 0, .bool false] 27))) := Lib.hid Trio7.start
  have HR := Lib.hid hr
  have HU := Lib.hid hu
  have Hlo := Lib.hid hlo
  have Hn := Lib.hid hn
  have Hk := Lib.hid hk
  have Hp := Lib.hid hp
  have H1 := Lib.hid h1
  have HD := Lib.hid hD
  have Hs := Lib.hid hs
  clear hr hu hlo hn hp h1 hD hs
  go_enter Try.func28, Try.ntmps28
  go_upto_region 1 with fail
  generalize (((w.alloc (Obj.cells (d7A d (.slice (some ⟨g, 0, none⟩) l.length cap)) 27)).alloc (Obj.cells (bA s) 33)).alloc (Obj.cells #[.slice none 0 0, .int .i64 0, .int .i64 0, .int .i64 0, .bool false] 27)) = w0 at *
  go_wp2_with (first | (refine wpl_load rfl _ rfl (w.heap.size) rfl _ _ _ (HS.out.x) Try.underlying27 rfl Try.info7D ?_; go_frame))
  refine (b7 d (some ⟨g, 0, none⟩) l.length cap (k : Int) _ Hn.out hl).mono ?_
  rintro e w1 ⟨rfl, hb⟩
  rw [H1.out, HD.out]
  have HS1 := Lib.hid (HS.out.below hb)
  clear hb
  go_upto_region 2 with (first | (refine wpl_store rfl _ _ rfl (w.heap.size) (d7A { d with n := d.n + 1 } (.slice (some ⟨g, 0, none⟩) l.length cap)) rfl rfl _ _ HS1.out.x Try.info7D rfl (d7A_one _ _ _ _) ?_; intro w2 hX hK; have HS2 := Lib.hid (HS1.out.newx hX hK); clear hX hK; go_frame))
  have HR2 := Lib.hid (HR.out.below HS2.out.b)
  have c0 := (HS2.out.x.cell 0).trans (show (d7A { d with n := d.n + 1 } (.slice (some ⟨g, 0, none⟩) l.length cap))[0]? = some (.slice (some ⟨g, 0, none⟩) l.length cap) from rfl)
  have HC := Lib.hid (row_range HR2.out.own rfl k _ Hp.out)
  go_upto_region 5 with (first | (refine wpl_load_z (by rfl) _ _ rfl g (k * 4) rfl (z, .slice b z.ss.length cu) _ HC.out Try.underlying87 rfl Try.info7Z ?_; go_frame) | (refine wpl_store_new rfl _ _ rfl (z7A z (.slice b z.ss.length cu)) w2 87 z7Z rfl rfl rfl Try.info7Z rfl (z7A_one _ _ _ _) ?_; go_frame))
  clear c0
  have HY := Lib.hid (Blk.new w2 87 (z7A z (.slice b z.ss.length cu)))
  have HB := below_alloc w2 (Obj.cells (z7A z (.slice b z.ss.length cu)) 87)
  have HS3 := Lib.hid (HS2.out.below HB)
  have HR3 := Lib.hid (HR2.out.below HB)
  have HU3 := Lib.hid (ownK_below (ownK_below HU.out HS2.out.b) HB)
  have Hgy := Lib.hid HS2.out.g.lt
  clear HB HS HS1 HR2 HC
  generalize w2.alloc (Obj.cells (z7A z (.slice b z.ss.length cu)) 87) = w3 at *
  generalize w2.heap.size = Y at *
  have Hst := Lib.hid h2
  have h3' : (f7E z != 0) = true := by simpa using h3
  clear h2 h3
  have HX := Lib.hid HS3.out.x
  refine wp_region_held (S := fun w' => Below w3.heap.size w3 w') (by kernel_rfl) ?_
  change wpAnyH _ _ _ _ _ _ _ _ (World.drew _)
  have hS : Below w3.heap.size w3 w3.drew := (Below.refl _ _).drew
  refine takeH hS (i := 0) (d := 27) (v := .pointer (some ⟨Y, 2, none⟩)) rfl rfl (by kernel_rfl) (by kernel_rfl) (by kernel_rfl) (fun _ _ _ h => h) (Or.inl ⟨by kernel_rfl, fun w' hw' => by kernel_rfl⟩) ?_
  refine takeH hS (i := 1) (d := 28) (v := .int .i64 (z.state)) rfl rfl (by kernel_rfl) (by kernel_rfl) (by kernel_rfl) (fun _ _ _ h => h) (Or.inl ⟨by kernel_rfl, fun w' hw' => by exact exec_cell _ rfl ⟨Y, 2, none⟩ rfl _ Try.underlying3 (((HY.out.below hw' HY.out.lt).cell 2).trans (rfl))⟩) ?_
  refine takeH hS (i := 2) (d := 29) (v := .bool false) rfl rfl (by kernel_rfl) (by kernel_rfl) (by kernel_rfl) (fun _ _ _ h => h) (Or.inl ⟨by kernel_rfl, fun w' hw' => by exact exec_eql _ _ rfl (z.state) (0) rfl rfl false (decide_eq_false Hst.out) rfl⟩) ?_
  refine takeH hS (i := 3) (d := 30) (v := .bool false) rfl rfl (by kernel_rfl) (by kernel_rfl) (by kernel_rfl) (fun _ _ _ h => h) (Or.inl ⟨by kernel_rfl, fun w' hw' => by kernel_rfl⟩) ?_
  try go_frame
  refine takeH hS (i := 4) (d := 31) (v := undef) rfl rfl (by kernel_rfl) (by kernel_rfl) (by kernel_rfl) (fun _ _ _ h => h) (Or.inr ⟨by kernel_rfl, rfl⟩) ?_
  refine takeH hS (i := 5) (d := 32) (v := undef) rfl rfl (by kernel_rfl) (by kernel_rfl) (by kernel_rfl) (fun _ _ _ h => h) (Or.inr ⟨by kernel_rfl, rfl⟩) ?_
  refine takeH hS (i := 6) (d := 33) (v := undef) rfl rfl (by kernel_rfl) (by kernel_rfl) (by kernel_rfl) (fun _ _ _ h => h) (Or.inr ⟨by kernel_rfl, rfl⟩) ?_
  refine takeH hS (i := 7) (d := 34) (v := undef) rfl rfl (by kernel_rfl) (by kernel_rfl) (by kernel_rfl) (fun _ _ _ h => h) (Or.inr ⟨by kernel_rfl, rfl⟩) ?_
  try go_frame
  refine takeH hS (i := 8) (d := 35) (v := undef) rfl rfl (by kernel_rfl) (by kernel_rfl) (by kernel_rfl) (fun _ _ _ h => h) (Or.inr ⟨by kernel_rfl, rfl⟩) ?_
  refine takeH hS (i := 9) (d := 36) (v := .bool false) rfl rfl (by kernel_rfl) (by kernel_rfl) (by kernel_rfl) (fun _ _ _ h => h) (Or.inl ⟨by kernel_rfl, fun w' hw' => by kernel_rfl⟩) ?_
  refine wpAnyH_done (by kernel_rfl) ?_ _
  try go_frame
  have HS4 := Lib.hid (HS3.out.below hS)
  have HY4 := Lib.hid (HY.out.below hS HY.out.lt)
  have HR4 := Lib.hid (HR3.out.below hS)
  have HU4 := Lib.hid (ownK_below HU3.out hS)
  clear hS HS3 HY HR3 HU3 HX
  generalize w3.drew = w4 at *
  go_wp2_with (first | (refine wpl_load rfl _ rfl (Y) rfl _ _ _ (HY4.out) Try.underlying87 rfl Try.info7Z ?_; go_frame))
  refine (f7 z (.slice b z.ss.length cu) _).mono ?_
  rintro e w5 ⟨rfl, hb⟩
  have HS5 := Lib.hid (HS4.out.below hb)
  have HY5 := Lib.hid (HY4.out.below hb HY4.out.lt)
  have HR5 := Lib.hid (HR4.out.below hb)
  have HU5 := Lib.hid (ownK_below HU4.out hb)
  clear hb HS4 HY4 HR4 HU4
  go_upto_region 8 with fail
  have HX := Lib.hid HS5.out.x
  have Hg := Lib.hid HS5.out.g
  refine wp_region_held (S := fun w' => Kept (· = w.heap.size + 2) w5 w') (by kernel_rfl) ?_
  change wpAnyH _ _ _ _ _ _ _ _ (World.drew _)
  have hS : Kept (· = w.heap.size + 2) w5 w5.drew := (Kept.refl _ _).drew
  have hB0 : Below w5.heap.size w5 w5.drew := (Below.refl _ _).drew
  refine takeH hS (i := 0) (d := 41) (v := .agg (d7A { d with n := d.n + 1 } (.slice (some ⟨g, 0, none⟩) l.length cap))) rfl rfl (by kernel_rfl) (by kernel_rfl) (by kernel_rfl) (fun _ _ _ h => h) (Or.inl ⟨by kernel_rfl, fun w' hw' => by exact exec_load _ rfl (w.heap.size) rfl (HX.out.kept hw' (by omega)) Try.underlying27 rfl (Try.info7D)⟩) ?_
  refine takeH hS (i := 1) (d := 42) (v := .agg (z7A z (.slice b z.ss.length cu))) rfl rfl (by kernel_rfl) (by kernel_rfl) (by kernel_rfl) (fun _ _ _ h => h) (Or.inl ⟨by kernel_rfl, fun w' hw' => by exact exec_load _ rfl (Y) rfl (HY5.out.kept hw' (by have := Hgy.out; omega)) Try.underlying87 rfl (Try.info7Z)⟩) ?_
  try go_frame
  refine nextH (i := 2) rfl (by kernel_rfl) (by kernel_rfl) (fun K' hK => ?_)
  go_wp2_with fail
  refine (f7 z (.slice b z.ss.length cu) _).mono ?_
  rintro en w5c1 ⟨rfl, hb⟩
  have hS1 : Kept (· = w.heap.size + 2) w5 w5c1 := kept_next hS hb
  have hB1 : Below w5.heap.size w5 w5c1 := bel_next hB0 hb
  refine hK.out _ _ ⟨hS1, ?_⟩
  clear hK K' hb hS hB0
  refine nextH (i := 3) rfl (by kernel_rfl) (by kernel_rfl) (fun K' hK => ?_)
  refine wpo_store _ _ rfl (w.heap.size + 2) (d7A { d with n := d.n + 1 } (.slice (some ⟨g, 0, none⟩) l.length cap)) rfl rfl _ _ (Hg.out.below hB1 Hg.out.lt) (Try.info7D) (rfl) (d7A_one _ _ _ _) ?_
  intro w5s2 hP2 hq
  have hS2 : Kept (· = w.heap.size + 2) w5 w5s2 := hS1.trans hq
  refine hK.out _ _ ⟨hS2, ?_⟩
  clear hK K' hq hS1
  try go_frame
  refine takeH hS2 (i := 4) (d := 7) (v := .int .i64 (0)) rfl rfl (by kernel_rfl) (by kernel_rfl) (by kernel_rfl) (fun _ _ _ h => h) (Or.inl ⟨by kernel_rfl, fun w' hw' => by kernel_rfl⟩) ?_
  refine takeH hS2 (i := 5) (d := 8) (v := .int .i64 (f7E z)) rfl rfl (by kernel_rfl) (by kernel_rfl) (by kernel_rfl) (fun _ _ _ h => h) (Or.inl ⟨by kernel_rfl, fun w' hw' => by kernel_rfl⟩) ?_
  refine wpAnyH_done (by kernel_rfl) ?_ _
  try go_frame
  have HF := Lib.hid (HS5.out.out hP2 hS2)
  have HR6 := Lib.hid (HR5.out.keptB HS5.out.g (by decide) (by decide) hS2)
  clear hS2 hP2
  go_wp2_with fail
  exact bodyPost_ret (v := .tuple #[.agg (d7A { d with n := d.n + 1 } (.slice (some ⟨g, 0, none⟩) l.length cap)), .int .i64 (0), .int .i64 (f7E z)]) (results_cell_slot2 Try.results28 _ _ (w.heap.size + 2) 27 _ _ _ _ rfl rfl rfl HF.out.g Try.underlying27 rfl Try.info7D) rfl ⟨_, .slice none 0 0, rfl, HR6.out, HF.out.b⟩
set_option maxRecDepth 100000 in
set_option maxHeartbeats 4000000 in
theorem ap7_two {lo : Nat} {w : World} {v u : Value} {l : List (R7z × Value)} {k : Nat} {z : R7z} (d : R7d) (s : List Nat) (hs : s.length = 64) (hn : 0 ≤ d.n ∧ d.n ≤ 1000000) (hl : l.length ≤ 1000) (hz64 : z.ss.length ≤ 1000) (hr : Row7 lo w v l) (hlo : lo ≤ w.heap.size) (hp : l[k]? = some (z, u)) (h1 : b7E d l.length (k : Int) = 0) (h2 : z.state = 2) :
    Calls Try.prog 28 #[.agg (d7A d v), .int .i64 (k : Nat), .agg (bA s)] w (ap7P lo w (fun _ => l) { d with n := d.n + 1 } 0 17) := by
  obtain ⟨a, cap, rfl⟩ := own_slice hr.own
  obtain ⟨-, k1, k2⟩ := ownK_cap hr.own
  unfold maxLen at k2
  have hk : k < l.length := (List.getElem?_eq_some_iff.1 hp).1
  have hD : b7R d l.length (k : Int) = { d with n := d.n + 1 } := by unfold b7R; rw [if_pos h1]
  obtain ⟨g, rfl, _, _⟩ := ownK_form hr.own (by omega)
  have hu : w.ownsRow lo 33 64 u z.ss.length (flat z.ss) := hr.each _ (List.mem_of_getElem? hp)
  obtain ⟨b, cu, rfl⟩ := own_slice hu
  obtain ⟨-, q1, q2⟩ := ownK_cap hu
  unfold maxLen at q2
  have HS : Hid (Trio7 27 33 27 w (d7A d (.slice (some ⟨g, 0, none⟩) l.length cap)) (bA s) d7Z (((w.alloc (Obj.cells (d7A d (.slice (some ⟨g, 0, none⟩) l.length cap)) 27)).alloc (Obj.cells (bA s) 33)).alloc (Obj.cells #[.slice none 0 0, .int .i64 0, .int .i64 0, .int .i64 0, .bool false] 27))) := Lib.hid Trio7.start
  have HR := Lib.hid hr
  have HU := Lib.hid hu
  have Hlo := Lib.hid hlo
  have Hn := Lib.hid hn
  have Hk := Lib.hid hk
  have Hp := Lib.hid hp
  have H1 := Lib.hid h1
  have HD := Lib.hid hD
  have Hs := Lib.hid hs
  clear hr hu hlo hn hp h1 hD hs
  go_enter Try.func28, Try.ntmps28
  go_upto_region 1 with fail
  generalize (((w.alloc (Obj.cells (d7A d (.slice (some ⟨g, 0, none⟩) l.length cap)) 27)).alloc (Obj.cells (bA s) 33)).alloc (Obj.cells #[.slice none 0 0, .int .i64 0, .int .i64 0, .int .i64 0, .bool false] 27)) = w0 at *
  go_wp2_with (first | (refine wpl_load rfl _ rfl (w.heap.size) rfl _ _ _ (HS.out.x) Try.underlying27 rfl Try.info7D ?_; go_frame))
  refine (b7 d (some ⟨g, 0, none⟩) l.length cap (k : Int) _ Hn.out hl).mono ?_
  rintro e w1 ⟨rfl, hb⟩
  rw [H1.out, HD.out]
  have HS1 := Lib.hid (HS.out.below hb)
  clear hb
  go_upto_region 2 with (first | (refine wpl_store rfl _ _ rfl (w.heap.size) (d7A { d with n := d.n + 1 } (.slice (some ⟨g, 0, none⟩) l.length cap)) rfl rfl _ _ HS1.out.x Try.info7D rfl (d7A_one _ _ _ _) ?_; intro w2 hX hK; have HS2 := Lib.hid (HS1.out.newx hX hK); clear hX hK; go_frame))
  have HR2 := Lib.hid (HR.out.below HS2.out.b)
  have c0 := (HS2.out.x.cell 0).trans (show (d7A { d with n := d.n + 1 } (.slice (some ⟨g, 0, none⟩) l.length cap))[0]? = some (.slice (some ⟨g, 0, none⟩) l.length cap) from rfl)
  have HC := Lib.hid (row_range HR2.out.own rfl k _ Hp.out)
  go_upto_region 5 with (first | (refine wpl_load_z (by rfl) _ _ rfl g (k * 4) rfl (z, .slice b z.ss.length cu) _ HC.out Try.underlying87 rfl Try.info7Z ?_; go_frame) | (refine wpl_store_new rfl _ _ rfl (z7A z (.slice b z.ss.length cu)) w2 87 z7Z rfl rfl rfl Try.info7Z rfl (z7A_one _ _ _ _) ?_; go_frame))
  clear c0
  have HY := Lib.hid (Blk.new w2 87 (z7A z (.slice b z.ss.length cu)))
  have HB := below_alloc w2 (Obj.cells (z7A z (.slice b z.ss.length cu)) 87)
  have HS3 := Lib.hid (HS2.out.below HB)
  have HR3 := Lib.hid (HR2.out.below HB)
  have HU3 := Lib.hid (ownK_below (ownK_below HU.out HS2.out.b) HB)
  have Hgy := Lib.hid HS2.out.g.lt
  clear HB HS HS1 HR2 HC
  generalize w2.alloc (Obj.cells (z7A z (.slice b z.ss.length cu)) 87) = w3 at *
  generalize w2.heap.size = Y at *
  have h3 : f7E z = 0 := by unfold f7E; rw [h2]; rfl
  have H3 := Lib.hid h3
  have H2 := Lib.hid h2
  have Hst := Lib.hid (show ¬ z.state = 0 by omega)
  clear h2 h3
  have HX := Lib.hid HS3.out.x
  refine wp_region_held (S := fun w' => Below w3.heap.size w3 w') (by kernel_rfl) ?_
  change wpAnyH _ _ _ _ _ _ _ _ (World.drew _)
  have hS : Below w3.heap.size w3 w3.drew := (Below.refl _ _).drew
  refine takeH hS (i := 0) (d := 27) (v := .pointer (some ⟨Y, 2, none⟩)) rfl rfl (by kernel_rfl) (by kernel_rfl) (by kernel_rfl) (fun _ _ _ h => h) (Or.inl ⟨by kernel_rfl, fun w' hw' => by kernel_rfl⟩) ?_
  refine takeH hS (i := 1) (d := 28) (v := .int .i64 (z.state)) rfl rfl (by kernel_rfl) (by kernel_rfl) (by kernel_rfl) (fun _ _ _ h => h) (Or.inl ⟨by kernel_rfl, fun w' hw' => by exact exec_cell _ rfl ⟨Y, 2, none⟩ rfl _ Try.underlying3 (((HY.out.below hw' HY.out.lt).cell 2).trans (rfl))⟩) ?_
  refine takeH hS (i := 2) (d := 29) (v := .bool false) rfl rfl (by kernel_rfl) (by kernel_rfl) (by kernel_rfl) (fun _ _ _ h => h) (Or.inl ⟨by kernel_rfl, fun w' hw' => by exact exec_eql _ _ rfl (z.state) (0) rfl rfl false (decide_eq_false Hst.out) rfl⟩) ?_
  refine takeH hS (i := 3) (d := 30) (v := .bool false) rfl rfl (by kernel_rfl) (by kernel_rfl) (by kernel_rfl) (fun _ _ _ h => h) (Or.inl ⟨by kernel_rfl, fun w' hw' => by kernel_rfl⟩) ?_
  try go_frame
  refine takeH hS (i := 4) (d := 31) (v := undef) rfl rfl (by kernel_rfl) (by kernel_rfl) (by kernel_rfl) (fun _ _ _ h => h) (Or.inr ⟨by kernel_rfl, rfl⟩) ?_
  refine takeH hS (i := 5) (d := 32) (v := undef) rfl rfl (by kernel_rfl) (by kernel_rfl) (by kernel_rfl) (fun _ _ _ h => h) (Or.inr ⟨by kernel_rfl, rfl⟩) ?_
  refine takeH hS (i := 6) (d := 33) (v := undef) rfl rfl (by kernel_rfl) (by kernel_rfl) (by kernel_rfl) (fun _ _ _ h => h) (Or.inr ⟨by kernel_rfl, rfl⟩) ?_
  refine takeH hS (i := 7) (d := 34) (v := undef) rfl rfl (by kernel_rfl) (by kernel_rfl) (by kernel_rfl) (fun _ _ _ h => h) (Or.inr ⟨by kernel_rfl, rfl⟩) ?_
  try go_frame
  refine takeH hS (i := 8) (d := 35) (v := undef) rfl rfl (by kernel_rfl) (by kernel_rfl) (by kernel_rfl) (fun _ _ _ h => h) (Or.inr ⟨by kernel_rfl, rfl⟩) ?_
  refine takeH hS (i := 9) (d := 36) (v := .bool false) rfl rfl (by kernel_rfl) (by kernel_rfl) (by kernel_rfl) (fun _ _ _ h => h) (Or.inl ⟨by kernel_rfl, fun w' hw' => by kernel_rfl⟩) ?_
  refine wpAnyH_done (by kernel_rfl) ?_ _
  try go_frame
  have HS4 := Lib.hid (HS3.out.below hS)
  have HY4 := Lib.hid (HY.out.below hS HY.out.lt)
  have HR4 := Lib.hid (HR3.out.below hS)
  have HU4 := Lib.hid (ownK_below HU3.out hS)
  clear hS HS3 HY HR3 HU3 HX
  generalize w3.drew = w4 at *
  go_wp2_with (first | (refine wpl_load rfl _ rfl (Y) rfl _ _ _ (HY4.out) Try.underlying87 rfl Try.info7Z ?_; go_frame))
  refine (f7 z (.slice b z.ss.length cu) _).mono ?_
  rintro e w5 ⟨rfl, hb⟩
  rw [H3.out]
  have HS5 := Lib.hid (HS4.out.below hb)
  have HY5 := Lib.hid (HY4.out.below hb HY4.out.lt)
  have HR5 := Lib.hid (HR4.out.below hb)
  have HU5 := Lib.hid (ownK_below HU4.out hb)
  clear hb HS4 HY4 HR4 HU4
  have c2 : w5.cell? ⟨Y, 2, none⟩ = some (.int .i64 2) := (HY5.out.cell 2).trans (congrArg (fun t => some (Value.int .i64 t)) H2.out)
  go_wp2_with (first | (refine wpl_load rfl _ rfl (w.heap.size) rfl _ _ _ (HS5.out.x) Try.underlying27 rfl Try.info7D ?_; go_frame) | (refine wpl_store rfl _ _ rfl (w.heap.size + 2) (d7A { d with n := d.n + 1 } (.slice (some ⟨g, 0, none⟩) l.length cap)) rfl rfl _ _ HS5.out.g Try.info7D rfl (d7A_one _ _ _ _) ?_; intro w6 hSg hKg; have HSg := Lib.hid hSg; have HKg := Lib.hid hKg; clear hSg hKg; go_frame))
  have HF := Lib.hid (HS5.out.out HSg.out HKg.out)
  exact bodyPost_ret (v := .tuple #[.agg (d7A { d with n := d.n + 1 } (.slice (some ⟨g, 0, none⟩) l.length cap)), .int .i64 (0), .int .i64 (17)]) (results_cell_slot2 Try.results28 _ _ (w.heap.size + 2) 27 _ _ _ _ rfl rfl rfl HF.out.g Try.underlying27 rfl Try.info7D) rfl ⟨_, .slice none 0 0, rfl, HR5.out.keptB HS5.out.g (by decide) (by decide) HKg.out, HF.out.b⟩
set_option maxRecDepth 100000 in
set_option maxHeartbeats 4000000 in
theorem ap7_ok0 {lo : Nat} {w : World} {v u : Value} {l : List (R7z × Value)} {k : Nat} {z : R7z} (d : R7d) (s : List Nat) (hs : s.length = 64) (hn : 0 ≤ d.n ∧ d.n ≤ 1000000) (hl : l.length ≤ 1000) (hz64 : z.ss.length ≤ 1000) (hr : Row7 lo w v l) (hlo : lo ≤ w.heap.size) (hp : l[k]? = some (z, u)) (h1 : b7E d l.length (k : Int) = 0) {zq : R7z} (hZ : ap7Z d.size z s = zq) (h64 : ∀ t ∈ z.ss, t.length = 64) (h3 : f7E z = 0) (h4 : z.state ≠ 2) (h2 : z.state = 0) (h5 : ¬ d.opn ≤ (op7 l : Int)) :
    Calls Try.prog 28 #[.agg (d7A d v), .int .i64 (k : Nat), .agg (bA s)] w (ap7P lo w (fun u' => l.set k (zq, u')) { d with n := d.n + 1 } (z.ss.length : Nat) 0) := by
  obtain ⟨a, cap, rfl⟩ := own_slice hr.own
  obtain ⟨-, k1, k2⟩ := ownK_cap hr.own
  unfold maxLen at k2
  have hk : k < l.length := (List.getElem?_eq_some_iff.1 hp).1
  have hD : b7R d l.length (k : Int) = { d with n := d.n + 1 } := by unfold b7R; rw [if_pos h1]
  obtain ⟨g, rfl, _, _⟩ := ownK_form hr.own (by omega)
  have hu : w.ownsRow lo 33 64 u z.ss.length (flat z.ss) := hr.each _ (List.mem_of_getElem? hp)
  obtain ⟨b, cu, rfl⟩ := own_slice hu
  obtain ⟨-, q1, q2⟩ := ownK_cap hu
  unfold maxLen at q2
  have HS : Hid (Trio7 27 33 27 w (d7A d (.slice (some ⟨g, 0, none⟩) l.length cap)) (bA s) d7Z (((w.alloc (Obj.cells (d7A d (.slice (some ⟨g, 0, none⟩) l.length cap)) 27)).alloc (Obj.cells (bA s) 33)).alloc (Obj.cells #[.slice none 0 0, .int .i64 0, .int .i64 0, .int .i64 0, .bool false] 27))) := Lib.hid Trio7.start
  have HR := Lib.hid hr
  have HU := Lib.hid hu
  have Hlo := Lib.hid hlo
  have Hn := Lib.hid hn
  have Hk := Lib.hid hk
  have Hp := Lib.hid hp
  have H1 := Lib.hid h1
  have HD := Lib.hid hD
  have Hs := Lib.hid hs
  clear hr hu hlo hn hp h1 hD hs
  go_enter Try.func28, Try.ntmps28
  go_upto_region 1 with fail
  generalize (((w.alloc (Obj.cells (d7A d (.slice (some ⟨g, 0, none⟩) l.length cap)) 27)).alloc (Obj.cells (bA s) 33)).alloc (Obj.cells #[.slice none 0 0, .int .i64 0, .int .i64 0, .int .i64 0, .bool false] 27)) = w0 at *
  go_wp2_with (first | (refine wpl_load rfl _ rfl (w.heap.size) rfl _ _ _ (HS.out.x) Try.underlying27 rfl Try.info7D ?_; go_frame))
  refine (b7 d (some ⟨g, 0, none⟩) l.length cap (k : Int) _ Hn.out hl).mono ?_
  rintro e w1 ⟨rfl, hb⟩
  rw [H1.out, HD.out]
  have HS1 := Lib.hid (HS.out.below hb)
  clear hb
  go_upto_region 2 with (first | (refine wpl_store rfl _ _ rfl (w.heap.size) (d7A { d with n := d.n + 1 } (.slice (some ⟨g, 0, none⟩) l.length cap)) rfl rfl _ _ HS1.out.x Try.info7D rfl (d7A_one _ _ _ _) ?_; intro w2 hX hK; have HS2 := Lib.hid (HS1.out.newx hX hK); clear hX hK; go_frame))
  have HR2 := Lib.hid (HR.out.below HS2.out.b)
  have c0 := (HS2.out.x.cell 0).trans (show (d7A { d with n := d.n + 1 } (.slice (some ⟨g, 0, none⟩) l.length cap))[0]? = some (.slice (some ⟨g, 0, none⟩) l.length cap) from rfl)
  have HC := Lib.hid (row_range HR2.out.own rfl k _ Hp.out)
  go_upto_region 5 with (first | (refine wpl_load_z (by rfl) _ _ rfl g (k * 4) rfl (z, .slice b z.ss.length cu) _ HC.out Try.underlying87 rfl Try.info7Z ?_; go_frame) | (refine wpl_store_new rfl _ _ rfl (z7A z (.slice b z.ss.length cu)) w2 87 z7Z rfl rfl rfl Try.info7Z rfl (z7A_one _ _ _ _) ?_; go_frame))
  clear c0
  have HY := Lib.hid (Blk.new w2 87 (z7A z (.slice b z.ss.length cu)))
  have HB := below_alloc w2 (Obj.cells (z7A z (.slice b z.ss.length cu)) 87)
  have HS3 := Lib.hid (HS2.out.below HB)
  have HR3 := Lib.hid (HR2.out.below HB)
  have HU3 := Lib.hid (ownK_below (ownK_below HU.out HS2.out.b) HB)
  have Hgy := Lib.hid HS2.out.g.lt
  clear HB HS HS1 HR2 HC
  generalize w2.alloc (Obj.cells (z7A z (.slice b z.ss.length cu)) 87) = w3 at *
  generalize w2.heap.size = Y at *
  have Hst := Lib.hid h2
  have Hop := Lib.hid (show (op7 l : Int) < d.opn by omega)
  clear h2 h5
  have H64 := Lib.hid h64
  have H3 := Lib.hid h3
  have h4' : (z.state == 2) = false := by simpa using h4
  clear h64 h3 h4
  have HZ := Lib.hid hZ
  clear hZ
  have HX := Lib.hid HS3.out.x
  refine wp_region_held (S := fun w' => Below w3.heap.size w3 w') (by kernel_rfl) ?_
  change wpAnyH _ _ _ _ _ _ _ _ (World.drew _)
  have hS : Below w3.heap.size w3 w3.drew := (Below.refl _ _).drew
  refine takeH hS (i := 0) (d := 27) (v := .pointer (some ⟨Y, 2, none⟩)) rfl rfl (by kernel_rfl) (by kernel_rfl) (by kernel_rfl) (fun _ _ _ h => h) (Or.inl ⟨by kernel_rfl, fun w' hw' => by kernel_rfl⟩) ?_
  refine takeH hS (i := 1) (d := 28) (v := .int .i64 (z.state)) rfl rfl (by kernel_rfl) (by kernel_rfl) (by kernel_rfl) (fun _ _ _ h => h) (Or.inl ⟨by kernel_rfl, fun w' hw' => by exact exec_cell _ rfl ⟨Y, 2, none⟩ rfl _ Try.underlying3 (((HY.out.below hw' HY.out.lt).cell 2).trans (rfl))⟩) ?_
  refine takeH hS (i := 2) (d := 29) (v := .bool true) rfl rfl (by kernel_rfl) (by kernel_rfl) (by kernel_rfl) (fun _ _ _ h => h) (Or.inl ⟨by kernel_rfl, fun w' hw' => by exact exec_eql _ _ rfl (z.state) (0) rfl rfl true (decide_eq_true Hst.out) rfl⟩) ?_
  refine takeH hS (i := 3) (d := 30) (v := .bool true) rfl rfl (by kernel_rfl) (by kernel_rfl) (by kernel_rfl) (fun _ _ _ h => h) (Or.inl ⟨by kernel_rfl, fun w' hw' => by kernel_rfl⟩) ?_
  try go_frame
  refine takeH hS (i := 4) (d := 31) (v := .agg (d7A { d with n := d.n + 1 } (.slice (some ⟨g, 0, none⟩) l.length cap))) rfl rfl (by kernel_rfl) (by kernel_rfl) (by kernel_rfl) (fun _ _ _ h => h) (Or.inl ⟨by kernel_rfl, fun w' hw' => by exact exec_load _ rfl (w.heap.size) rfl (HX.out.below hw' HX.out.lt) Try.underlying27 rfl (Try.info7D)⟩) ?_
  refine takeH hS (i := 6) (d := 33) (v := .pointer (some ⟨w.heap.size, 2, none⟩)) rfl rfl (by kernel_rfl) (by kernel_rfl) (by kernel_rfl) (fun _ _ _ h => h) (Or.inl ⟨by kernel_rfl, fun w' hw' => by kernel_rfl⟩) ?_
  refine takeH hS (i := 7) (d := 34) (v := .int .i64 (d.opn)) rfl rfl (by kernel_rfl) (by kernel_rfl) (by kernel_rfl) (fun _ _ _ h => h) (Or.inl ⟨by kernel_rfl, fun w' hw' => by exact exec_cell _ rfl ⟨w.heap.size, 2, none⟩ rfl _ Try.underlying3 (((HX.out.below hw' HX.out.lt).cell 2).trans (rfl))⟩) ?_
  try go_frame
  refine nextH (i := 5) rfl (by kernel_rfl) (by kernel_rfl) (fun K' hK => ?_)
  go_wp2_with fail
  refine (o7 { d with n := d.n + 1 } (by omega) (HR3.out.below hS)).mono ?_
  rintro en w3c1 ⟨rfl, hb⟩
  have hS1 : Below w3.heap.size w3 w3c1 := bel_next hS hb
  refine hK.out _ _ ⟨hS1, ?_⟩
  clear hK K' hb hS
  refine takeH hS1 (i := 8) (d := 35) (v := .bool false) rfl rfl (by kernel_rfl) (by kernel_rfl) (by kernel_rfl) (fun _ _ _ h => h) (Or.inl ⟨by kernel_rfl, fun w' hw' => by exact exec_geq _ _ rfl ((op7 l : Nat)) (d.opn) rfl rfl false (decide_eq_false (show ¬ ((op7 l : Int) ≥ d.opn) by have := Hop.out; omega)) rfl⟩) ?_
  refine takeH hS1 (i := 9) (d := 36) (v := .bool false) rfl rfl (by kernel_rfl) (by kernel_rfl) (by kernel_rfl) (fun _ _ _ h => h) (Or.inl ⟨by kernel_rfl, fun w' hw' => by kernel_rfl⟩) ?_
  refine wpAnyH_done (by kernel_rfl) ?_ _
  try go_frame
  have HS4 := Lib.hid (HS3.out.below hS1)
  have HY4 := Lib.hid (HY.out.below hS1 HY.out.lt)
  have HR4 := Lib.hid (HR3.out.below hS1)
  have HU4 := Lib.hid (ownK_below HU3.out hS1)
  clear hS1 HS3 HY HR3 HU3 HX
  go_wp2_with (first | (refine wpl_load rfl _ rfl (Y) rfl _ _ _ (HY4.out) Try.underlying87 rfl Try.info7Z ?_; go_frame))
  refine (f7 z (.slice b z.ss.length cu) _).mono ?_
  rintro e w5 ⟨rfl, hb⟩
  rw [H3.out]
  have HS5 := Lib.hid (HS4.out.below hb)
  have HY5 := Lib.hid (HY4.out.below hb HY4.out.lt)
  have HR5 := Lib.hid (HR4.out.below hb)
  have HU5 := Lib.hid (ownK_below HU4.out hb)
  clear hb HS4 HY4 HR4 HU4
  have c2 : w5.cell? ⟨Y, 2, none⟩ = some (.int .i64 z.state) := (HY5.out.cell 2).trans rfl
  go_upto_region 12 with fail
  clear c2
  have c0 := (HY5.out.cell 0).trans (show (z7A z (.slice b z.ss.length cu))[0]? = some (.slice b z.ss.length cu) from rfl)
  have hlo5 : lo ≤ w5.heap.size := by have := HS5.out.b.size; have := Hlo.out; omega
  have HY5l := Lib.hid HY5.out.lt
  have HS5g := Lib.hid HS5.out.g.lt
  go_upto_region 13 with (refine wpl_appendK el7S rfl (.tmp 48) (.tmp 50) rfl lo (.slice none 0 0) 0 [] rfl (ownK_nil _ _ _ _) b z.ss.length cu (flat z.ss) rfl (flat_length H64.out) (ownK_src HU5.out).1 (ownK_src HU5.out).2 (flat_ones _) (by omega) (by omega) ?_; intro v6 w6 hown hgr hv6; have hf6 : ∀ g, v6.ownBlock = some g → w5.heap.size ≤ g := (fun g hg => by rcases hv6 with h | h; (rw [h] at hg; simp [Value.ownBlock] at hg); (rw [h] at hg; injection hg with hg; omega)); have HB6 : Hid (Below w5.heap.size w5 w6) := Lib.hid ((Below.refl _ _).grown hgr (Nat.le_refl _) (fun k e => by simp [Value.ownBlock] at e)); rw [Nat.zero_add, List.nil_append] at hown; obtain ⟨a6, cp6, rfl⟩ := own_slice hown; have Hown := Lib.hid hown; have Hf6 := Lib.hid hf6; clear hown hgr hv6 hf6; go_frame)
  have HS6 := Lib.hid (HS5.out.below HB6.out)
  have HY6 := Lib.hid (HY5.out.below HB6.out HY5.out.lt)
  clear c0
  have hlo6 : lo ≤ w6.heap.size := by have := HB6.out.size; omega
  have HS6b := Lib.hid (HS6.out.below (below_alloc w6 (Obj.cells (bA s) 33)))
  have HY6b := Lib.hid (HY6.out.alloc (Obj.cells (bA s) 33))
  have HO6b := Lib.hid (ownK_below Hown.out (below_alloc w6 (Obj.cells (bA s) 33)))
  go_upto_region 14 with (first | (refine wpl_load rfl _ rfl (w.heap.size + 1) rfl _ _ _ (HS6.out.y) Try.underlying33 rfl (by rw [bA_size, Hs.out]; exact Try.info7S) ?_; go_frame) | (refine wpl_buildK el7S (by decide) rfl _ rfl (bA s) rfl (by rw [bA_size, Hs.out]) ?_; go_frame) | (refine wpl_appendK el7S rfl (.tmp 52) (.tmp 54) rfl lo (.slice a6 z.ss.length cp6) z.ss.length (flat z.ss) rfl HO6b.out (some ⟨w6.heap.size, 0, none⟩) 1 1 (bvals s) rfl (by rw [bvals_length, Hs.out]) (fun e => by cases e) (src_row _ (bA s)) (bvals_one s) (by omega) (by rw [World.size_alloc]; omega) ?_; intro v7 w7 hown hgr hv7; have HB7 : Hid (Kept (fun i => (Value.slice a6 z.ss.length cp6).ownBlock = some i) (w6.alloc (Obj.cells (bA s) 33)) w7) := Lib.hid ((Kept.refl _ _).grown hgr (fun g e => e)); have Hf7 : Hid (∀ G0, v7.ownBlock = some G0 → w5.heap.size ≤ G0) := Lib.hid (fun G0 hg => by rcases hv7 with h | h; (rw [h] at hg; exact Hf6.out G0 hg); (rw [h] at hg; injection hg with hg; have := HB6.out.size; rw [World.size_alloc] at hg; omega)); obtain ⟨a7, cp7, rfl⟩ := own_slice hown; have Hown7 := Lib.hid hown; clear hown hgr hv7; have c0 : w7.cell? ⟨Y, 0, none⟩ = some (.slice b z.ss.length cu) := ((HY6b.out.kept HB7.out (fun e => by have := Hf6.out _ e; have := HY5l.out; omega)).cell 0).trans rfl; have f0 : w7.frozen? ⟨Y, 0, none⟩ = false := (HY6b.out.kept HB7.out (fun e => by have := Hf6.out _ e; have := HY5l.out; omega)).frozen 0; go_frame))
  have HY7 := Lib.hid (HY6b.out.kept HB7.out (fun e => by have := Hf6.out _ e; have := HY5l.out; omega))
  have HS7 : Hid (Trio7 27 33 27 w (d7A { d with n := d.n + 1 } (.slice (some ⟨g, 0, none⟩) l.length cap)) (bA s) d7Z w7) := Lib.hid ⟨HS6b.out.x.kept HB7.out (fun e => by have := Hf6.out _ e; have := HS5g.out; omega), HS6b.out.y.kept HB7.out (fun e => by have := Hf6.out _ e; have := HS5g.out; omega), HS6b.out.g.kept HB7.out (fun e => by have := Hf6.out _ e; have := HS5g.out; omega), bkept HS6b.out.b (Nat.le_refl _) HB7.out (fun i hi e => by have := Hf6.out _ e; have := HS5.out.b.size; omega)⟩
  have HR7 := Lib.hid (HR5.out.below ((HB6.out.trans ((below_alloc w6 (Obj.cells (bA s) 33)).mono HB6.out.size)).trans (HB7.out.below (by have := HB6.out.size; rw [World.size_alloc]; omega) (fun i hi e => by have := Hf6.out _ e; omega))))
  have HYv : Hid (Blk (w7.setCell ⟨Y, 0, none⟩ (.slice a7 (z.ss.length + 1) cp7)) Y 87 (z7A z (.slice a7 (z.ss.length + 1) cp7))) := Lib.hid (HY7.out.set 0 _)
  have hkY := (Kept.refl (· = Y) w7).setCell (p := ⟨Y, 0, none⟩) rfl (.slice a7 (z.ss.length + 1) cp7)
  have HS8 := Lib.hid (HS7.out.kept hkY (by have := Hgy.out; omega))
  have HR8 := Lib.hid (HR7.out.keptN HR.out (by have := Hgy.out; omega) hkY)
  have HO8 := Lib.hid (own_kept Hown7.out hkY (fun i hi e => by have := Hf7.out _ hi; have := HY5l.out; omega))
  clear c0 f0 hkY HS5 HR5 HS6 HS6b HY6 HY6b HO6b HS7 HR7 HY7 HB7 HB6 Hown Hown7
  generalize w7.setCell ⟨Y, 0, none⟩ (.slice a7 (z.ss.length + 1) cp7) = w8 at *
  have c2 := (HYv.out.cell 2).trans (show (z7A z (.slice a7 (z.ss.length + 1) cp7))[2]? = some (.int .i64 z.state) from rfl)
  have f2 := HYv.out.frozen 2
  go_upto_region 15 with fail
  have HYw : Hid (Blk (w8.setCell ⟨Y, 2, none⟩ (.int .i64 1)) Y 87 (z7A { z with state := 1 } (.slice a7 (z.ss.length + 1) cp7))) := Lib.hid (HYv.out.set 2 _)
  have hkY := (Kept.refl (· = Y) w8).setCell (p := ⟨Y, 2, none⟩) rfl (.int .i64 1)
  have HS9 := Lib.hid (HS8.out.kept hkY (by have := Hgy.out; omega))
  have HR9 := Lib.hid (HR8.out.keptN HR.out (by have := Hgy.out; omega) hkY)
  have HO9 := Lib.hid (own_kept HO8.out hkY (fun i hi e => by have := Hf7.out _ hi; have := HY5l.out; omega))
  clear c2 f2 hkY HS8 HR8 HO8 HYv
  generalize w8.setCell ⟨Y, 2, none⟩ (.int .i64 1) = w9 at *
  have c0 := (HYw.out.cell 0).trans (show (z7A { z with state := 1 } (.slice a7 (z.ss.length + 1) cp7))[0]? = some (.slice a7 (z.ss.length + 1) cp7) from rfl)
  have c1 := (HS9.out.x.cell 1).trans (show (d7A { d with n := d.n + 1 } (.slice (some ⟨g, 0, none⟩) l.length cap))[1]? = some (.int .i64 d.size) from rfl)
  have hcp7 : z.ss.length + 1 ≤ cp7 ∧ cp7 ≤ 9223372036854775807 := by have h := (ownK_cap HO9.out).2; unfold maxLen at h; exact ⟨h.1, h.2⟩
  by_cases he : ((z.ss.length + 1 : Nat) : Int) = d.size
  · obtain rfl : { z with ss := z.ss ++ [s], state := 2 } = zq := (show ap7Z d.size z s = { z with ss := z.ss ++ [s], state := 2 } by unfold ap7Z; rw [if_pos he]).symm.trans HZ.out
    have hd : (((z.ss.length + 1 : Nat) : Int) == d.size) = true := by simpa using he
    have hd' : ((z.ss.length : Int) + 1 == d.size) = true := by simpa using he
    clear he HZ
    go_upto_region 16 with fail
    have c2 := (HYw.out.cell 2).trans (show (z7A { z with state := 1 } (.slice a7 (z.ss.length + 1) cp7))[2]? = some (.int .i64 1) from rfl)
    have f2 := HYw.out.frozen 2
    clear c0 c1 hd hd'
    go_upto_region 17 with fail
    have HYx : Hid (Blk (w9.setCell ⟨Y, 2, none⟩ (.int .i64 2)) Y 87 (z7A { z with state := 2 } (.slice a7 (z.ss.length + 1) cp7))) := Lib.hid (HYw.out.set 2 _)
    have hkY := (Kept.refl (· = Y) w9).setCell (p := ⟨Y, 2, none⟩) rfl (.int .i64 2)
    have HS10 := Lib.hid (HS9.out.kept hkY (by have := Hgy.out; omega))
    have HR10 := Lib.hid (HR9.out.keptN HR.out (by have := Hgy.out; omega) hkY)
    have HO10 := Lib.hid (own_kept HO9.out hkY (fun i hi e => by have := Hf7.out _ hi; have := HY5l.out; omega))
    clear c2 f2 hkY HS9 HR9 HO9 HYw
    generalize w9.setCell ⟨Y, 2, none⟩ (.int .i64 2) = wq at *
    have HX := Lib.hid HS10.out.x
    have Hg := Lib.hid HS10.out.g
    have HSl := Lib.hid HS10.out
    have HYl := Lib.hid HYx.out
    have HRl := Lib.hid HR10.out
    have HOl := Lib.hid HO10.out
    refine wp_region_held (S := fun w' => Kept (· = w.heap.size + 2) wq w') (by kernel_rfl) ?_
    change wpAnyH _ _ _ _ _ _ _ _ (World.drew _)
    have hS : Kept (· = w.heap.size + 2) wq wq.drew := (Kept.refl _ _).drew
    have hB0 : Below wq.heap.size wq wq.drew := (Below.refl _ _).drew
    refine takeH hS (i := 0) (d := 65) (v := .agg (d7A { d with n := d.n + 1 } (.slice (some ⟨g, 0, none⟩) l.length cap))) rfl rfl (by kernel_rfl) (by kernel_rfl) (by kernel_rfl) (fun _ _ _ h => h) (Or.inl ⟨by kernel_rfl, fun w' hw' => by exact exec_load _ rfl (w.heap.size) rfl (HX.out.kept hw' (by omega)) Try.underlying27 rfl (Try.info7D)⟩) ?_
    refine takeH hS (i := 1) (d := 66) (v := .int .i64 ((k : Nat))) rfl rfl (by kernel_rfl) (by kernel_rfl) (by kernel_rfl) (fun _ _ _ h => h) (Or.inl ⟨by kernel_rfl, fun w' hw' => by kernel_rfl⟩) ?_
    refine takeH hS (i := 2) (d := 67) (v := .agg (z7A { z with state := 2 } (.slice a7 (z.ss.length + 1) cp7))) rfl rfl (by kernel_rfl) (by kernel_rfl) (by kernel_rfl) (fun _ _ _ h => h) (Or.inl ⟨by kernel_rfl, fun w' hw' => by exact exec_load _ rfl (Y) rfl (HYl.out.kept hw' (by have := Hgy.out; omega)) Try.underlying87 rfl (Try.info7Z)⟩) ?_
    refine takeH hS (i := 4) (d := 69) (v := .pointer (some ⟨Y, 0, none⟩)) rfl rfl (by kernel_rfl) (by kernel_rfl) (by kernel_rfl) (fun _ _ _ h => h) (Or.inl ⟨by kernel_rfl, fun w' hw' => by kernel_rfl⟩) ?_
    try go_frame
    refine takeH hS (i := 5) (d := 70) (v := .slice (a7) ((z.ss.length + 1)) (cp7)) rfl rfl (by kernel_rfl) (by kernel_rfl) (by kernel_rfl) (fun _ _ _ h => h) (Or.inl ⟨by kernel_rfl, fun w' hw' => by exact exec_cellv _ rfl ⟨Y, 0, none⟩ rfl (.slice (a7) ((z.ss.length + 1)) (cp7)) Try.underlying85 rfl (((HYl.out.kept hw' (by have := Hgy.out; omega)).cell 0).trans (rfl))⟩) ?_
    refine takeH hS (i := 6) (d := 71) (v := .int .i64 (((z.ss.length + 1) : Nat))) rfl rfl (by kernel_rfl) (by kernel_rfl) (by kernel_rfl) (fun _ _ _ h => h) (Or.inl ⟨by kernel_rfl, fun w' hw' => by exact exec_len _ rfl Try.underlying85 _ _ _ rfl⟩) ?_
    refine takeH hS (i := 7) (d := 72) (v := .int .i64 ((z.ss.length : Nat))) rfl rfl (by kernel_rfl) (by kernel_rfl) (by kernel_rfl) (fun _ _ _ h => h) (Or.inl ⟨by kernel_rfl, fun w' hw' => by exact exec_sub _ _ rfl (((z.ss.length + 1) : Nat)) (1) ((z.ss.length : Nat)) rfl rfl ((by omega)) (by omega)⟩) ?_
    try go_frame
    refine nextH (i := 3) rfl (by kernel_rfl) (by kernel_rfl) (fun K' hK => ?_)
    go_wp2_with fail
    have HOq := Lib.hid (show World.ownsRow wq.drew lo 33 64 (.slice a7 (z.ss.length + 1) cp7) ({ z with ss := z.ss ++ [s], state := 2 } : R7z).ss.length (flat (z.ss ++ [s])) ∧ lo ≤ (wq.drew).heap.size from ⟨by rw [flat_append, flat_one]; show World.ownsRow _ _ _ _ _ (z.ss ++ [s]).length _; rw [List.length_append]; exact ownK_below HOl.out hB0, by have := hB0.size; have := HSl.out.b.size; have := Hlo.out; omega⟩)
    refine (p7 (u := .slice a7 (z.ss.length + 1) cp7) { d with n := d.n + 1 } { z with ss := z.ss ++ [s], state := 2 } k Hk.out hl (HRl.out.below hB0) HOq.out.1 HOq.out.2).mono ?_
    rintro en wqc1 ⟨vp, rfl, hrp, hb⟩
    obtain ⟨ap, cpp, hvp⟩ := own_slice hrp.own
    rw [List.length_set] at hvp
    subst hvp
    have hS1 : Kept (· = w.heap.size + 2) wq wqc1 := kept_next hS hb
    have hB1 : Below wq.heap.size wq wqc1 := bel_next hB0 hb
    refine hK.out _ _ ⟨hS1, ?_⟩
    clear hK K' hb hS hB0
    refine nextH (i := 8) rfl (by kernel_rfl) (by kernel_rfl) (fun K' hK => ?_)
    refine wpo_store _ _ rfl (w.heap.size + 2) (d7A { d with n := d.n + 1 } (.slice ap l.length cpp)) rfl rfl _ _ (Hg.out.below hB1 Hg.out.lt) (Try.info7D) (rfl) (d7A_one _ _ _ _) ?_
    intro wqs2 hP2 hq
    have hS2 : Kept (· = w.heap.size + 2) wq wqs2 := hS1.trans hq
    refine hK.out _ _ ⟨hS2, ?_⟩
    have hq0 := hq
    clear hK K' hq hS1
    try go_frame
    refine takeH hS2 (i := 9) (d := 7) (v := .int .i64 ((z.ss.length : Nat))) rfl rfl (by kernel_rfl) (by kernel_rfl) (by kernel_rfl) (fun _ _ _ h => h) (Or.inl ⟨by kernel_rfl, fun w' hw' => by kernel_rfl⟩) ?_
    refine takeH hS2 (i := 10) (d := 8) (v := .int .i64 (0)) rfl rfl (by kernel_rfl) (by kernel_rfl) (by kernel_rfl) (fun _ _ _ h => h) (Or.inl ⟨by kernel_rfl, fun w' hw' => by kernel_rfl⟩) ?_
    refine wpAnyH_done (by kernel_rfl) ?_ _
    try go_frame
    have HF := Lib.hid (HSl.out.out hP2 hS2)
    have HRf := Lib.hid (hrp.keptB (HSl.out.g.below hB1 HSl.out.g.lt) (by decide) (by decide) hq0)
    clear hS2 hP2
    go_wp2_with fail
    exact bodyPost_ret (v := .tuple #[.agg (d7A { d with n := d.n + 1 } (.slice ap l.length cpp)), .int .i64 ((z.ss.length : Nat)), .int .i64 (0)]) (results_cell_slot2 Try.results28 _ _ (w.heap.size + 2) 27 _ _ _ _ rfl rfl rfl HF.out.g Try.underlying27 rfl Try.info7D) rfl ⟨_, _, rfl, HRf.out, HF.out.b⟩
  · obtain rfl : { z with ss := z.ss ++ [s], state := 1 } = zq := (show ap7Z d.size z s = { z with ss := z.ss ++ [s], state := 1 } by unfold ap7Z; rw [if_neg he]).symm.trans HZ.out
    have hd : (((z.ss.length + 1 : Nat) : Int) == d.size) = false := by simpa using he
    have hd' : ((z.ss.length : Int) + 1 == d.size) = false := by simpa using he
    clear he HZ
    go_upto_region 17 with fail
    clear c0 c1 hd hd'
    have HX := Lib.hid HS9.out.x
    have Hg := Lib.hid HS9.out.g
    have HSl := Lib.hid HS9.out
    have HYl := Lib.hid HYw.out
    have HRl := Lib.hid HR9.out
    have HOl := Lib.hid HO9.out
    refine wp_region_held (S := fun w' => Kept (· = w.heap.size + 2) w9 w') (by kernel_rfl) ?_
    change wpAnyH _ _ _ _ _ _ _ _ (World.drew _)
    have hS : Kept (· = w.heap.size + 2) w9 w9.drew := (Kept.refl _ _).drew
    have hB0 : Below w9.heap.size w9 w9.drew := (Below.refl _ _).drew
    refine takeH hS (i := 0) (d := 65) (v := .agg (d7A { d with n := d.n + 1 } (.slice (some ⟨g, 0, none⟩) l.length cap))) rfl rfl (by kernel_rfl) (by kernel_rfl) (by kernel_rfl) (fun _ _ _ h => h) (Or.inl ⟨by kernel_rfl, fun w' hw' => by exact exec_load _ rfl (w.heap.size) rfl (HX.out.kept hw' (by omega)) Try.underlying27 rfl (Try.info7D)⟩) ?_
    refine takeH hS (i := 1) (d := 66) (v := .int .i64 ((k : Nat))) rfl rfl (by kernel_rfl) (by kernel_rfl) (by kernel_rfl) (fun _ _ _ h => h) (Or.inl ⟨by kernel_rfl, fun w' hw' => by kernel_rfl⟩) ?_
    refine takeH hS (i := 2) (d := 67) (v := .agg (z7A { z with state := 1 } (.slice a7 (z.ss.length + 1) cp7))) rfl rfl (by kernel_rfl) (by kernel_rfl) (by kernel_rfl) (fun _ _ _ h => h) (Or.inl ⟨by kernel_rfl, fun w' hw' => by exact exec_load _ rfl (Y) rfl (HYl.out.kept hw' (by have := Hgy.out; omega)) Try.underlying87 rfl (Try.info7Z)⟩) ?_
    refine takeH hS (i := 4) (d := 69) (v := .pointer (some ⟨Y, 0, none⟩)) rfl rfl (by kernel_rfl) (by kernel_rfl) (by kernel_rfl) (fun _ _ _ h => h) (Or.inl ⟨by kernel_rfl, fun w' hw' => by kernel_rfl⟩) ?_
    try go_frame
    refine takeH hS (i := 5) (d := 70) (v := .slice (a7) ((z.ss.length + 1)) (cp7)) rfl rfl (by kernel_rfl) (by kernel_rfl) (by kernel_rfl) (fun _ _ _ h => h) (Or.inl ⟨by kernel_rfl, fun w' hw' => by exact exec_cellv _ rfl ⟨Y, 0, none⟩ rfl (.slice (a7) ((z.ss.length + 1)) (cp7)) Try.underlying85 rfl (((HYl.out.kept hw' (by have := Hgy.out; omega)).cell 0).trans (rfl))⟩) ?_
    refine takeH hS (i := 6) (d := 71) (v := .int .i64 (((z.ss.length + 1) : Nat))) rfl rfl (by kernel_rfl) (by kernel_rfl) (by kernel_rfl) (fun _ _ _ h => h) (Or.inl ⟨by kernel_rfl, fun w' hw' => by exact exec_len _ rfl Try.underlying85 _ _ _ rfl⟩) ?_
    refine takeH hS (i := 7) (d := 72) (v := .int .i64 ((z.ss.length : Nat))) rfl rfl (by kernel_rfl) (by kernel_rfl) (by kernel_rfl) (fun _ _ _ h => h) (Or.inl ⟨by kernel_rfl, fun w' hw' => by exact exec_sub _ _ rfl (((z.ss.length + 1) : Nat)) (1) ((z.ss.length : Nat)) rfl rfl ((by omega)) (by omega)⟩) ?_
    try go_frame
    refine nextH (i := 3) rfl (by kernel_rfl) (by kernel_rfl) (fun K' hK => ?_)
    go_wp2_with fail
    have HOq := Lib.hid (show World.ownsRow w9.drew lo 33 64 (.slice a7 (z.ss.length + 1) cp7) ({ z with ss := z.ss ++ [s], state := 1 } : R7z).ss.length (flat (z.ss ++ [s])) ∧ lo ≤ (w9.drew).heap.size from ⟨by rw [flat_append, flat_one]; show World.ownsRow _ _ _ _ _ (z.ss ++ [s]).length _; rw [List.length_append]; exact ownK_below HOl.out hB0, by have := hB0.size; have := HSl.out.b.size; have := Hlo.out; omega⟩)
    refine (p7 (u := .slice a7 (z.ss.length + 1) cp7) { d with n := d.n + 1 } { z with ss := z.ss ++ [s], state := 1 } k Hk.out hl (HRl.out.below hB0) HOq.out.1 HOq.out.2).mono ?_
    rintro en w9c1 ⟨vp, rfl, hrp, hb⟩
    obtain ⟨ap, cpp, hvp⟩ := own_slice hrp.own
    rw [List.length_set] at hvp
    subst hvp
    have hS1 : Kept (· = w.heap.size + 2) w9 w9c1 := kept_next hS hb
    have hB1 : Below w9.heap.size w9 w9c1 := bel_next hB0 hb
    refine hK.out _ _ ⟨hS1, ?_⟩
    clear hK K' hb hS hB0
    refine nextH (i := 8) rfl (by kernel_rfl) (by kernel_rfl) (fun K' hK => ?_)
    refine wpo_store _ _ rfl (w.heap.size + 2) (d7A { d with n := d.n + 1 } (.slice ap l.length cpp)) rfl rfl _ _ (Hg.out.below hB1 Hg.out.lt) (Try.info7D) (rfl) (d7A_one _ _ _ _) ?_
    intro w9s2 hP2 hq
    have hS2 : Kept (· = w.heap.size + 2) w9 w9s2 := hS1.trans hq
    refine hK.out _ _ ⟨hS2, ?_⟩
    have hq0 := hq
    clear hK K' hq hS1
    try go_frame
    refine takeH hS2 (i := 9) (d := 7) (v := .int .i64 ((z.ss.length : Nat))) rfl rfl (by kernel_rfl) (by kernel_rfl) (by kernel_rfl) (fun _ _ _ h => h) (Or.inl ⟨by kernel_rfl, fun w' hw' => by kernel_rfl⟩) ?_
    refine takeH hS2 (i := 10) (d := 8) (v := .int .i64 (0)) rfl rfl (by kernel_rfl) (by kernel_rfl) (by kernel_rfl) (fun _ _ _ h => h) (Or.inl ⟨by kernel_rfl, fun w' hw' => by kernel_rfl⟩) ?_
    refine wpAnyH_done (by kernel_rfl) ?_ _
    try go_frame
    have HF := Lib.hid (HSl.out.out hP2 hS2)
    have HRf := Lib.hid (hrp.keptB (HSl.out.g.below hB1 HSl.out.g.lt) (by decide) (by decide) hq0)
    clear hS2 hP2
    go_wp2_with fail
    exact bodyPost_ret (v := .tuple #[.agg (d7A { d with n := d.n + 1 } (.slice ap l.length cpp)), .int .i64 ((z.ss.length : Nat)), .int .i64 (0)]) (results_cell_slot2 Try.results28 _ _ (w.heap.size + 2) 27 _ _ _ _ rfl rfl rfl HF.out.g Try.underlying27 rfl Try.info7D) rfl ⟨_, _, rfl, HRf.out, HF.out.b⟩
set_option maxRecDepth 100000 in
set_option maxHeartbeats 4000000 in
theorem ap7_ok1 {lo : Nat} {w : World} {v u : Value} {l : List (R7z × Value)} {k : Nat} {z : R7z} (d : R7d) (s : List Nat) (hs : s.length = 64) (hn : 0 ≤ d.n ∧ d.n ≤ 1000000) (hl : l.length ≤ 1000) (hz64 : z.ss.length ≤ 1000) (hr : Row7 lo w v l) (hlo : lo ≤ w.heap.size) (hp : l[k]? = some (z, u)) (h1 : b7E d l.length (k : Int) = 0) {zq : R7z} (hZ : ap7Z d.size z s = zq) (h64 : ∀ t ∈ z.ss, t.length = 64) (h3 : f7E z = 0) (h4 : z.state ≠ 2) (h2 : z.state ≠ 0) :
    Calls Try.prog 28 #[.agg (d7A d v), .int .i64 (k : Nat), .agg (bA s)] w (ap7P lo w (fun u' => l.set k (zq, u')) { d with n := d.n + 1 } (z.ss.length : Nat) 0) := by
  obtain ⟨a, cap, rfl⟩ := own_slice hr.own
  obtain ⟨-, k1, k2⟩ := ownK_cap hr.own
  unfold maxLen at k2
  have hk : k < l.length := (List.getElem?_eq_some_iff.1 hp).1
  have hD : b7R d l.length (k : Int) = { d with n := d.n + 1 } := by unfold b7R; rw [if_pos h1]
  obtain ⟨g, rfl, _, _⟩ := ownK_form hr.own (by omega)
  have hu : w.ownsRow lo 33 64 u z.ss.length (flat z.ss) := hr.each _ (List.mem_of_getElem? hp)
  obtain ⟨b, cu, rfl⟩ := own_slice hu
  obtain ⟨-, q1, q2⟩ := ownK_cap hu
  unfold maxLen at q2
  have HS : Hid (Trio7 27 33 27 w (d7A d (.slice (some ⟨g, 0, none⟩) l.length cap)) (bA s) d7Z (((w.alloc (Obj.cells (d7A d (.slice (some ⟨g, 0, none⟩) l.length cap)) 27)).alloc (Obj.cells (bA s) 33)).alloc (Obj.cells #[.slice none 0 0, .int .i64 0, .int .i64 0, .int .i64 0, .bool false] 27))) := Lib.hid Trio7.start
  have HR := Lib.hid hr
  have HU := Lib.hid hu
  have Hlo := Lib.hid hlo
  have Hn := Lib.hid hn
  have Hk := Lib.hid hk
  have Hp := Lib.hid hp
  have H1 := Lib.hid h1
  have HD := Lib.hid hD
  have Hs := Lib.hid hs
  clear hr hu hlo hn hp h1 hD hs
  go_enter Try.func28, Try.ntmps28
  go_upto_region 1 with fail
  generalize (((w.alloc (Obj.cells (d7A d (.slice (some ⟨g, 0, none⟩) l.length cap)) 27)).alloc (Obj.cells (bA s) 33)).alloc (Obj.cells #[.slice none 0 0, .int .i64 0, .int .i64 0, .int .i64 0, .bool false] 27)) = w0 at *
  go_wp2_with (first | (refine wpl_load rfl _ rfl (w.heap.size) rfl _ _ _ (HS.out.x) Try.underlying27 rfl Try.info7D ?_; go_frame))
  refine (b7 d (some ⟨g, 0, none⟩) l.length cap (k : Int) _ Hn.out hl).mono ?_
  rintro e w1 ⟨rfl, hb⟩
  rw [H1.out, HD.out]
  have HS1 := Lib.hid (HS.out.below hb)
  clear hb
  go_upto_region 2 with (first | (refine wpl_store rfl _ _ rfl (w.heap.size) (d7A { d with n := d.n + 1 } (.slice (some ⟨g, 0, none⟩) l.length cap)) rfl rfl _ _ HS1.out.x Try.info7D rfl (d7A_one _ _ _ _) ?_; intro w2 hX hK; have HS2 := Lib.hid (HS1.out.newx hX hK); clear hX hK; go_frame))
  have HR2 := Lib.hid (HR.out.below HS2.out.b)
  have c0 := (HS2.out.x.cell 0).trans (show (d7A { d with n := d.n + 1 } (.slice (some ⟨g, 0, none⟩) l.length cap))[0]? = some (.slice (some ⟨g, 0, none⟩) l.length cap) from rfl)
  have HC := Lib.hid (row_range HR2.out.own rfl k _ Hp.out)
  go_upto_region 5 with (first | (refine wpl_load_z (by rfl) _ _ rfl g (k * 4) rfl (z, .slice b z.ss.length cu) _ HC.out Try.underlying87 rfl Try.info7Z ?_; go_frame) | (refine wpl_store_new rfl _ _ rfl (z7A z (.slice b z.ss.length cu)) w2 87 z7Z rfl rfl rfl Try.info7Z rfl (z7A_one _ _ _ _) ?_; go_frame))
  clear c0
  have HY := Lib.hid (Blk.new w2 87 (z7A z (.slice b z.ss.length cu)))
  have HB := below_alloc w2 (Obj.cells (z7A z (.slice b z.ss.length cu)) 87)
  have HS3 := Lib.hid (HS2.out.below HB)
  have HR3 := Lib.hid (HR2.out.below HB)
  have HU3 := Lib.hid (ownK_below (ownK_below HU.out HS2.out.b) HB)
  have Hgy := Lib.hid HS2.out.g.lt
  clear HB HS HS1 HR2 HC
  generalize w2.alloc (Obj.cells (z7A z (.slice b z.ss.length cu)) 87) = w3 at *
  generalize w2.heap.size = Y at *
  have Hst := Lib.hid h2
  clear h2
  have H64 := Lib.hid h64
  have H3 := Lib.hid h3
  have h4' : (z.state == 2) = false := by simpa using h4
  clear h64 h3 h4
  have HZ := Lib.hid hZ
  clear hZ
  have HX := Lib.hid HS3.out.x
  refine wp_region_held (S := fun w' => Below w3.heap.size w3 w') (by kernel_rfl) ?_
  change wpAnyH _ _ _ _ _ _ _ _ (World.drew _)
  have hS : Below w3.heap.size w3 w3.drew := (Below.refl _ _).drew
  refine takeH hS (i := 0) (d := 27) (v := .pointer (some ⟨Y, 2, none⟩)) rfl rfl (by kernel_rfl) (by kernel_rfl) (by kernel_rfl) (fun _ _ _ h => h) (Or.inl ⟨by kernel_rfl, fun w' hw' => by kernel_rfl⟩) ?_
  refine takeH hS (i := 1) (d := 28) (v := .int .i64 (z.state)) rfl rfl (by kernel_rfl) (by kernel_rfl) (by kernel_rfl) (fun _ _ _ h => h) (Or.inl ⟨by kernel_rfl, fun w' hw' => by exact exec_cell _ rfl ⟨Y, 2, none⟩ rfl _ Try.underlying3 (((HY.out.below hw' HY.out.lt).cell 2).trans (rfl))⟩) ?_
  refine takeH hS (i := 2) (d := 29) (v := .bool false) rfl rfl (by kernel_rfl) (by kernel_rfl) (by kernel_rfl) (fun _ _ _ h => h) (Or.inl ⟨by kernel_rfl, fun w' hw' => by exact exec_eql _ _ rfl (z.state) (0) rfl rfl false (decide_eq_false Hst.out) rfl⟩) ?_
  refine takeH hS (i := 3) (d := 30) (v := .bool false) rfl rfl (by kernel_rfl) (by kernel_rfl) (by kernel_rfl) (fun _ _ _ h => h) (Or.inl ⟨by kernel_rfl, fun w' hw' => by kernel_rfl⟩) ?_
  try go_frame
  refine takeH hS (i := 4) (d := 31) (v := undef) rfl rfl (by kernel_rfl) (by kernel_rfl) (by kernel_rfl) (fun _ _ _ h => h) (Or.inr ⟨by kernel_rfl, rfl⟩) ?_
  refine takeH hS (i := 5) (d := 32) (v := undef) rfl rfl (by kernel_rfl) (by kernel_rfl) (by kernel_rfl) (fun _ _ _ h => h) (Or.inr ⟨by kernel_rfl, rfl⟩) ?_
  refine takeH hS (i := 6) (d := 33) (v := undef) rfl rfl (by kernel_rfl) (by kernel_rfl) (by kernel_rfl) (fun _ _ _ h => h) (Or.inr ⟨by kernel_rfl, rfl⟩) ?_
  refine takeH hS (i := 7) (d := 34) (v := undef) rfl rfl (by kernel_rfl) (by kernel_rfl) (by kernel_rfl) (fun _ _ _ h => h) (Or.inr ⟨by kernel_rfl, rfl⟩) ?_
  try go_frame
  refine takeH hS (i := 8) (d := 35) (v := undef) rfl rfl (by kernel_rfl) (by kernel_rfl) (by kernel_rfl) (fun _ _ _ h => h) (Or.inr ⟨by kernel_rfl, rfl⟩) ?_
  refine takeH hS (i := 9) (d := 36) (v := .bool false) rfl rfl (by kernel_rfl) (by kernel_rfl) (by kernel_rfl) (fun _ _ _ h => h) (Or.inl ⟨by kernel_rfl, fun w' hw' => by kernel_rfl⟩) ?_
  refine wpAnyH_done (by kernel_rfl) ?_ _
  try go_frame
  have HS4 := Lib.hid (HS3.out.below hS)
  have HY4 := Lib.hid (HY.out.below hS HY.out.lt)
  have HR4 := Lib.hid (HR3.out.below hS)
  have HU4 := Lib.hid (ownK_below HU3.out hS)
  clear hS HS3 HY HR3 HU3 HX
  generalize w3.drew = w4 at *
  go_wp2_with (first | (refine wpl_load rfl _ rfl (Y) rfl _ _ _ (HY4.out) Try.underlying87 rfl Try.info7Z ?_; go_frame))
  refine (f7 z (.slice b z.ss.length cu) _).mono ?_
  rintro e w5 ⟨rfl, hb⟩
  rw [H3.out]
  have HS5 := Lib.hid (HS4.out.below hb)
  have HY5 := Lib.hid (HY4.out.below hb HY4.out.lt)
  have HR5 := Lib.hid (HR4.out.below hb)
  have HU5 := Lib.hid (ownK_below HU4.out hb)
  clear hb HS4 HY4 HR4 HU4
  have c2 : w5.cell? ⟨Y, 2, none⟩ = some (.int .i64 z.state) := (HY5.out.cell 2).trans rfl
  go_upto_region 12 with fail
  clear c2
  have c0 := (HY5.out.cell 0).trans (show (z7A z (.slice b z.ss.length cu))[0]? = some (.slice b z.ss.length cu) from rfl)
  have hlo5 : lo ≤ w5.heap.size := by have := HS5.out.b.size; have := Hlo.out; omega
  have HY5l := Lib.hid HY5.out.lt
  have HS5g := Lib.hid HS5.out.g.lt
  go_upto_region 13 with (refine wpl_appendK el7S rfl (.tmp 48) (.tmp 50) rfl lo (.slice none 0 0) 0 [] rfl (ownK_nil _ _ _ _) b z.ss.length cu (flat z.ss) rfl (flat_length H64.out) (ownK_src HU5.out).1 (ownK_src HU5.out).2 (flat_ones _) (by omega) (by omega) ?_; intro v6 w6 hown hgr hv6; have hf6 : ∀ g, v6.ownBlock = some g → w5.heap.size ≤ g := (fun g hg => by rcases hv6 with h | h; (rw [h] at hg; simp [Value.ownBlock] at hg); (rw [h] at hg; injection hg with hg; omega)); have HB6 : Hid (Below w5.heap.size w5 w6) := Lib.hid ((Below.refl _ _).grown hgr (Nat.le_refl _) (fun k e => by simp [Value.ownBlock] at e)); rw [Nat.zero_add, List.nil_append] at hown; obtain ⟨a6, cp6, rfl⟩ := own_slice hown; have Hown := Lib.hid hown; have Hf6 := Lib.hid hf6; clear hown hgr hv6 hf6; go_frame)
  have HS6 := Lib.hid (HS5.out.below HB6.out)
  have HY6 := Lib.hid (HY5.out.below HB6.out HY5.out.lt)
  clear c0
  have hlo6 : lo ≤ w6.heap.size := by have := HB6.out.size; omega
  have HS6b := Lib.hid (HS6.out.below (below_alloc w6 (Obj.cells (bA s) 33)))
  have HY6b := Lib.hid (HY6.out.alloc (Obj.cells (bA s) 33))
  have HO6b := Lib.hid (ownK_below Hown.out (below_alloc w6 (Obj.cells (bA s) 33)))
  go_upto_region 14 with (first | (refine wpl_load rfl _ rfl (w.heap.size + 1) rfl _ _ _ (HS6.out.y) Try.underlying33 rfl (by rw [bA_size, Hs.out]; exact Try.info7S) ?_; go_frame) | (refine wpl_buildK el7S (by decide) rfl _ rfl (bA s) rfl (by rw [bA_size, Hs.out]) ?_; go_frame) | (refine wpl_appendK el7S rfl (.tmp 52) (.tmp 54) rfl lo (.slice a6 z.ss.length cp6) z.ss.length (flat z.ss) rfl HO6b.out (some ⟨w6.heap.size, 0, none⟩) 1 1 (bvals s) rfl (by rw [bvals_length, Hs.out]) (fun e => by cases e) (src_row _ (bA s)) (bvals_one s) (by omega) (by rw [World.size_alloc]; omega) ?_; intro v7 w7 hown hgr hv7; have HB7 : Hid (Kept (fun i => (Value.slice a6 z.ss.length cp6).ownBlock = some i) (w6.alloc (Obj.cells (bA s) 33)) w7) := Lib.hid ((Kept.refl _ _).grown hgr (fun g e => e)); have Hf7 : Hid (∀ G0, v7.ownBlock = some G0 → w5.heap.size ≤ G0) := Lib.hid (fun G0 hg => by rcases hv7 with h | h; (rw [h] at hg; exact Hf6.out G0 hg); (rw [h] at hg; injection hg with hg; have := HB6.out.size; rw [World.size_alloc] at hg; omega)); obtain ⟨a7, cp7, rfl⟩ := own_slice hown; have Hown7 := Lib.hid hown; clear hown hgr hv7; have c0 : w7.cell? ⟨Y, 0, none⟩ = some (.slice b z.ss.length cu) := ((HY6b.out.kept HB7.out (fun e => by have := Hf6.out _ e; have := HY5l.out; omega)).cell 0).trans rfl; have f0 : w7.frozen? ⟨Y, 0, none⟩ = false := (HY6b.out.kept HB7.out (fun e => by have := Hf6.out _ e; have := HY5l.out; omega)).frozen 0; go_frame))
  have HY7 := Lib.hid (HY6b.out.kept HB7.out (fun e => by have := Hf6.out _ e; have := HY5l.out; omega))
  have HS7 : Hid (Trio7 27 33 27 w (d7A { d with n := d.n + 1 } (.slice (some ⟨g, 0, none⟩) l.length cap)) (bA s) d7Z w7) := Lib.hid ⟨HS6b.out.x.kept HB7.out (fun e => by have := Hf6.out _ e; have := HS5g.out; omega), HS6b.out.y.kept HB7.out (fun e => by have := Hf6.out _ e; have := HS5g.out; omega), HS6b.out.g.kept HB7.out (fun e => by have := Hf6.out _ e; have := HS5g.out; omega), bkept HS6b.out.b (Nat.le_refl _) HB7.out (fun i hi e => by have := Hf6.out _ e; have := HS5.out.b.size; omega)⟩
  have HR7 := Lib.hid (HR5.out.below ((HB6.out.trans ((below_alloc w6 (Obj.cells (bA s) 33)).mono HB6.out.size)).trans (HB7.out.below (by have := HB6.out.size; rw [World.size_alloc]; omega) (fun i hi e => by have := Hf6.out _ e; omega))))
  have HYv : Hid (Blk (w7.setCell ⟨Y, 0, none⟩ (.slice a7 (z.ss.length + 1) cp7)) Y 87 (z7A z (.slice a7 (z.ss.length + 1) cp7))) := Lib.hid (HY7.out.set 0 _)
  have hkY := (Kept.refl (· = Y) w7).setCell (p := ⟨Y, 0, none⟩) rfl (.slice a7 (z.ss.length + 1) cp7)
  have HS8 := Lib.hid (HS7.out.kept hkY (by have := Hgy.out; omega))
  have HR8 := Lib.hid (HR7.out.keptN HR.out (by have := Hgy.out; omega) hkY)
  have HO8 := Lib.hid (own_kept Hown7.out hkY (fun i hi e => by have := Hf7.out _ hi; have := HY5l.out; omega))
  clear c0 f0 hkY HS5 HR5 HS6 HS6b HY6 HY6b HO6b HS7 HR7 HY7 HB7 HB6 Hown Hown7
  generalize w7.setCell ⟨Y, 0, none⟩ (.slice a7 (z.ss.length + 1) cp7) = w8 at *
  have c2 := (HYv.out.cell 2).trans (show (z7A z (.slice a7 (z.ss.length + 1) cp7))[2]? = some (.int .i64 z.state) from rfl)
  have f2 := HYv.out.frozen 2
  go_upto_region 15 with fail
  have HYw : Hid (Blk (w8.setCell ⟨Y, 2, none⟩ (.int .i64 1)) Y 87 (z7A { z with state := 1 } (.slice a7 (z.ss.length + 1) cp7))) := Lib.hid (HYv.out.set 2 _)
  have hkY := (Kept.refl (· = Y) w8).setCell (p := ⟨Y, 2, none⟩) rfl (.int .i64 1)
  have HS9 := Lib.hid (HS8.out.kept hkY (by have := Hgy.out; omega))
  have HR9 := Lib.hid (HR8.out.keptN HR.out (by have := Hgy.out; omega) hkY)
  have HO9 := Lib.hid (own_kept HO8.out hkY (fun i hi e => by have := Hf7.out _ hi; have := HY5l.out; omega))
  clear c2 f2 hkY HS8 HR8 HO8 HYv
  generalize w8.setCell ⟨Y, 2, none⟩ (.int .i64 1) = w9 at *
  have c0 := (HYw.out.cell 0).trans (show (z7A { z with state := 1 } (.slice a7 (z.ss.length + 1) cp7))[0]? = some (.slice a7 (z.ss.length + 1) cp7) from rfl)
  have c1 := (HS9.out.x.cell 1).trans (show (d7A { d with n := d.n + 1 } (.slice (some ⟨g, 0, none⟩) l.length cap))[1]? = some (.int .i64 d.size) from rfl)
  have hcp7 : z.ss.length + 1 ≤ cp7 ∧ cp7 ≤ 9223372036854775807 := by have h := (ownK_cap HO9.out).2; unfold maxLen at h; exact ⟨h.1, h.2⟩
  by_cases he : ((z.ss.length + 1 : Nat) : Int) = d.size
  · obtain rfl : { z with ss := z.ss ++ [s], state := 2 } = zq := (show ap7Z d.size z s = { z with ss := z.ss ++ [s], state := 2 } by unfold ap7Z; rw [if_pos he]).symm.trans HZ.out
    have hd : (((z.ss.length + 1 : Nat) : Int) == d.size) = true := by simpa using he
    have hd' : ((z.ss.length : Int) + 1 == d.size) = true := by simpa using he
    clear he HZ
    go_upto_region 16 with fail
    have c2 := (HYw.out.cell 2).trans (show (z7A { z with state := 1 } (.slice a7 (z.ss.length + 1) cp7))[2]? = some (.int .i64 1) from rfl)
    have f2 := HYw.out.frozen 2
    clear c0 c1 hd hd'
    go_upto_region 17 with fail
    have HYx : Hid (Blk (w9.setCell ⟨Y, 2, none⟩ (.int .i64 2)) Y 87 (z7A { z with state := 2 } (.slice a7 (z.ss.length + 1) cp7))) := Lib.hid (HYw.out.set 2 _)
    have hkY := (Kept.refl (· = Y) w9).setCell (p := ⟨Y, 2, none⟩) rfl (.int .i64 2)
    have HS10 := Lib.hid (HS9.out.kept hkY (by have := Hgy.out; omega))
    have HR10 := Lib.hid (HR9.out.keptN HR.out (by have := Hgy.out; omega) hkY)
    have HO10 := Lib.hid (own_kept HO9.out hkY (fun i hi e => by have := Hf7.out _ hi; have := HY5l.out; omega))
    clear c2 f2 hkY HS9 HR9 HO9 HYw
    generalize w9.setCell ⟨Y, 2, none⟩ (.int .i64 2) = wq at *
    have HX := Lib.hid HS10.out.x
    have Hg := Lib.hid HS10.out.g
    have HSl := Lib.hid HS10.out
    have HYl := Lib.hid HYx.out
    have HRl := Lib.hid HR10.out
    have HOl := Lib.hid HO10.out
    refine wp_region_held (S := fun w' => Kept (· = w.heap.size + 2) wq w') (by kernel_rfl) ?_
    change wpAnyH _ _ _ _ _ _ _ _ (World.drew _)
    have hS : Kept (· = w.heap.size + 2) wq wq.drew := (Kept.refl _ _).drew
    have hB0 : Below wq.heap.size wq wq.drew := (Below.refl _ _).drew
    refine takeH hS (i := 0) (d := 65) (v := .agg (d7A { d with n := d.n + 1 } (.slice (some ⟨g, 0, none⟩) l.length cap))) rfl rfl (by kernel_rfl) (by kernel_rfl) (by kernel_rfl) (fun _ _ _ h => h) (Or.inl ⟨by kernel_rfl, fun w' hw' => by exact exec_load _ rfl (w.heap.size) rfl (HX.out.kept hw' (by omega)) Try.underlying27 rfl (Try.info7D)⟩) ?_
    refine takeH hS (i := 1) (d := 66) (v := .int .i64 ((k : Nat))) rfl rfl (by kernel_rfl) (by kernel_rfl) (by kernel_rfl) (fun _ _ _ h => h) (Or.inl ⟨by kernel_rfl, fun w' hw' => by kernel_rfl⟩) ?_
    refine takeH hS (i := 2) (d := 67) (v := .agg (z7A { z with state := 2 } (.slice a7 (z.ss.length + 1) cp7))) rfl rfl (by kernel_rfl) (by kernel_rfl) (by kernel_rfl) (fun _ _ _ h => h) (Or.inl ⟨by kernel_rfl, fun w' hw' => by exact exec_load _ rfl (Y) rfl (HYl.out.kept hw' (by have := Hgy.out; omega)) Try.underlying87 rfl (Try.info7Z)⟩) ?_
    refine takeH hS (i := 4) (d := 69) (v := .pointer (some ⟨Y, 0, none⟩)) rfl rfl (by kernel_rfl) (by kernel_rfl) (by kernel_rfl) (fun _ _ _ h => h) (Or.inl ⟨by kernel_rfl, fun w' hw' => by kernel_rfl⟩) ?_
    try go_frame
    refine takeH hS (i := 5) (d := 70) (v := .slice (a7) ((z.ss.length + 1)) (cp7)) rfl rfl (by kernel_rfl) (by kernel_rfl) (by kernel_rfl) (fun _ _ _ h => h) (Or.inl ⟨by kernel_rfl, fun w' hw' => by exact exec_cellv _ rfl ⟨Y, 0, none⟩ rfl (.slice (a7) ((z.ss.length + 1)) (cp7)) Try.underlying85 rfl (((HYl.out.kept hw' (by have := Hgy.out; omega)).cell 0).trans (rfl))⟩) ?_
    refine takeH hS (i := 6) (d := 71) (v := .int .i64 (((z.ss.length + 1) : Nat))) rfl rfl (by kernel_rfl) (by kernel_rfl) (by kernel_rfl) (fun _ _ _ h => h) (Or.inl ⟨by kernel_rfl, fun w' hw' => by exact exec_len _ rfl Try.underlying85 _ _ _ rfl⟩) ?_
    refine takeH hS (i := 7) (d := 72) (v := .int .i64 ((z.ss.length : Nat))) rfl rfl (by kernel_rfl) (by kernel_rfl) (by kernel_rfl) (fun _ _ _ h => h) (Or.inl ⟨by kernel_rfl, fun w' hw' => by exact exec_sub _ _ rfl (((z.ss.length + 1) : Nat)) (1) ((z.ss.length : Nat)) rfl rfl ((by omega)) (by omega)⟩) ?_
    try go_frame
    refine nextH (i := 3) rfl (by kernel_rfl) (by kernel_rfl) (fun K' hK => ?_)
    go_wp2_with fail
    have HOq := Lib.hid (show World.ownsRow wq.drew lo 33 64 (.slice a7 (z.ss.length + 1) cp7) ({ z with ss := z.ss ++ [s], state := 2 } : R7z).ss.length (flat (z.ss ++ [s])) ∧ lo ≤ (wq.drew).heap.size from ⟨by rw [flat_append, flat_one]; show World.ownsRow _ _ _ _ _ (z.ss ++ [s]).length _; rw [List.length_append]; exact ownK_below HOl.out hB0, by have := hB0.size; have := HSl.out.b.size; have := Hlo.out; omega⟩)
    refine (p7 (u := .slice a7 (z.ss.length + 1) cp7) { d with n := d.n + 1 } { z with ss := z.ss ++ [s], state := 2 } k Hk.out hl (HRl.out.below hB0) HOq.out.1 HOq.out.2).mono ?_
    rintro en wqc1 ⟨vp, rfl, hrp, hb⟩
    obtain ⟨ap, cpp, hvp⟩ := own_slice hrp.own
    rw [List.length_set] at hvp
    subst hvp
    have hS1 : Kept (· = w.heap.size + 2) wq wqc1 := kept_next hS hb
    have hB1 : Below wq.heap.size wq wqc1 := bel_next hB0 hb
    refine hK.out _ _ ⟨hS1, ?_⟩
    clear hK K' hb hS hB0
    refine nextH (i := 8) rfl (by kernel_rfl) (by kernel_rfl) (fun K' hK => ?_)
    refine wpo_store _ _ rfl (w.heap.size + 2) (d7A { d with n := d.n + 1 } (.slice ap l.length cpp)) rfl rfl _ _ (Hg.out.below hB1 Hg.out.lt) (Try.info7D) (rfl) (d7A_one _ _ _ _) ?_
    intro wqs2 hP2 hq
    have hS2 : Kept (· = w.heap.size + 2) wq wqs2 := hS1.trans hq
    refine hK.out _ _ ⟨hS2, ?_⟩
    have hq0 := hq
    clear hK K' hq hS1
    try go_frame
    refine takeH hS2 (i := 9) (d := 7) (v := .int .i64 ((z.ss.length : Nat))) rfl rfl (by kernel_rfl) (by kernel_rfl) (by kernel_rfl) (fun _ _ _ h => h) (Or.inl ⟨by kernel_rfl, fun w' hw' => by kernel_rfl⟩) ?_
    refine takeH hS2 (i := 10) (d := 8) (v := .int .i64 (0)) rfl rfl (by kernel_rfl) (by kernel_rfl) (by kernel_rfl) (fun _ _ _ h => h) (Or.inl ⟨by kernel_rfl, fun w' hw' => by kernel_rfl⟩) ?_
    refine wpAnyH_done (by kernel_rfl) ?_ _
    try go_frame
    have HF := Lib.hid (HSl.out.out hP2 hS2)
    have HRf := Lib.hid (hrp.keptB (HSl.out.g.below hB1 HSl.out.g.lt) (by decide) (by decide) hq0)
    clear hS2 hP2
    go_wp2_with fail
    exact bodyPost_ret (v := .tuple #[.agg (d7A { d with n := d.n + 1 } (.slice ap l.length cpp)), .int .i64 ((z.ss.length : Nat)), .int .i64 (0)]) (results_cell_slot2 Try.results28 _ _ (w.heap.size + 2) 27 _ _ _ _ rfl rfl rfl HF.out.g Try.underlying27 rfl Try.info7D) rfl ⟨_, _, rfl, HRf.out, HF.out.b⟩
  · obtain rfl : { z with ss := z.ss ++ [s], state := 1 } = zq := (show ap7Z d.size z s = { z with ss := z.ss ++ [s], state := 1 } by unfold ap7Z; rw [if_neg he]).symm.trans HZ.out
    have hd : (((z.ss.length + 1 : Nat) : Int) == d.size) = false := by simpa using he
    have hd' : ((z.ss.length : Int) + 1 == d.size) = false := by simpa using he
    clear he HZ
    go_upto_region 17 with fail
    clear c0 c1 hd hd'
    have HX := Lib.hid HS9.out.x
    have Hg := Lib.hid HS9.out.g
    have HSl := Lib.hid HS9.out
    have HYl := Lib.hid HYw.out
    have HRl := Lib.hid HR9.out
    have HOl := Lib.hid HO9.out
    refine wp_region_held (S := fun w' => Kept (· = w.heap.size + 2) w9 w') (by kernel_rfl) ?_
    change wpAnyH _ _ _ _ _ _ _ _ (World.drew _)
    have hS : Kept (· = w.heap.size + 2) w9 w9.drew := (Kept.refl _ _).drew
    have hB0 : Below w9.heap.size w9 w9.drew := (Below.refl _ _).drew
    refine takeH hS (i := 0) (d := 65) (v := .agg (d7A { d with n := d.n + 1 } (.slice (some ⟨g, 0, none⟩) l.length cap))) rfl rfl (by kernel_rfl) (by kernel_rfl) (by kernel_rfl) (fun _ _ _ h => h) (Or.inl ⟨by kernel_rfl, fun w' hw' => by exact exec_load _ rfl (w.heap.size) rfl (HX.out.kept hw' (by omega)) Try.underlying27 rfl (Try.info7D)⟩) ?_
    refine takeH hS (i := 1) (d := 66) (v := .int .i64 ((k : Nat))) rfl rfl (by kernel_rfl) (by kernel_rfl) (by kernel_rfl) (fun _ _ _ h => h) (Or.inl ⟨by kernel_rfl, fun w' hw' => by kernel_rfl⟩) ?_
    refine takeH hS (i := 2) (d := 67) (v := .agg (z7A { z with state := 1 } (.slice a7 (z.ss.length + 1) cp7))) rfl rfl (by kernel_rfl) (by kernel_rfl) (by kernel_rfl) (fun _ _ _ h => h) (Or.inl ⟨by kernel_rfl, fun w' hw' => by exact exec_load _ rfl (Y) rfl (HYl.out.kept hw' (by have := Hgy.out; omega)) Try.underlying87 rfl (Try.info7Z)⟩) ?_
    refine takeH hS (i := 4) (d := 69) (v := .pointer (some ⟨Y, 0, none⟩)) rfl rfl (by kernel_rfl) (by kernel_rfl) (by kernel_rfl) (fun _ _ _ h => h) (Or.inl ⟨by kernel_rfl, fun w' hw' => by kernel_rfl⟩) ?_
    try go_frame
    refine takeH hS (i := 5) (d := 70) (v := .slice (a7) ((z.ss.length + 1)) (cp7)) rfl rfl (by kernel_rfl) (by kernel_rfl) (by kernel_rfl) (fun _ _ _ h => h) (Or.inl ⟨by kernel_rfl, fun w' hw' => by exact exec_cellv _ rfl ⟨Y, 0, none⟩ rfl (.slice (a7) ((z.ss.length + 1)) (cp7)) Try.underlying85 rfl (((HYl.out.kept hw' (by have := Hgy.out; omega)).cell 0).trans (rfl))⟩) ?_
    refine takeH hS (i := 6) (d := 71) (v := .int .i64 (((z.ss.length + 1) : Nat))) rfl rfl (by kernel_rfl) (by kernel_rfl) (by kernel_rfl) (fun _ _ _ h => h) (Or.inl ⟨by kernel_rfl, fun w' hw' => by exact exec_len _ rfl Try.underlying85 _ _ _ rfl⟩) ?_
    refine takeH hS (i := 7) (d := 72) (v := .int .i64 ((z.ss.length : Nat))) rfl rfl (by kernel_rfl) (by kernel_rfl) (by kernel_rfl) (fun _ _ _ h => h) (Or.inl ⟨by kernel_rfl, fun w' hw' => by exact exec_sub _ _ rfl (((z.ss.length + 1) : Nat)) (1) ((z.ss.length : Nat)) rfl rfl ((by omega)) (by omega)⟩) ?_
    try go_frame
    refine nextH (i := 3) rfl (by kernel_rfl) (by kernel_rfl) (fun K' hK => ?_)
    go_wp2_with fail
    have HOq := Lib.hid (show World.ownsRow w9.drew lo 33 64 (.slice a7 (z.ss.length + 1) cp7) ({ z with ss := z.ss ++ [s], state := 1 } : R7z).ss.length (flat (z.ss ++ [s])) ∧ lo ≤ (w9.drew).heap.size from ⟨by rw [flat_append, flat_one]; show World.ownsRow _ _ _ _ _ (z.ss ++ [s]).length _; rw [List.length_append]; exact ownK_below HOl.out hB0, by have := hB0.size; have := HSl.out.b.size; have := Hlo.out; omega⟩)
    refine (p7 (u := .slice a7 (z.ss.length + 1) cp7) { d with n := d.n + 1 } { z with ss := z.ss ++ [s], state := 1 } k Hk.out hl (HRl.out.below hB0) HOq.out.1 HOq.out.2).mono ?_
    rintro en w9c1 ⟨vp, rfl, hrp, hb⟩
    obtain ⟨ap, cpp, hvp⟩ := own_slice hrp.own
    rw [List.length_set] at hvp
    subst hvp
    have hS1 : Kept (· = w.heap.size + 2) w9 w9c1 := kept_next hS hb
    have hB1 : Below w9.heap.size w9 w9c1 := bel_next hB0 hb
    refine hK.out _ _ ⟨hS1, ?_⟩
    clear hK K' hb hS hB0
    refine nextH (i := 8) rfl (by kernel_rfl) (by kernel_rfl) (fun K' hK => ?_)
    refine wpo_store _ _ rfl (w.heap.size + 2) (d7A { d with n := d.n + 1 } (.slice ap l.length cpp)) rfl rfl _ _ (Hg.out.below hB1 Hg.out.lt) (Try.info7D) (rfl) (d7A_one _ _ _ _) ?_
    intro w9s2 hP2 hq
    have hS2 : Kept (· = w.heap.size + 2) w9 w9s2 := hS1.trans hq
    refine hK.out _ _ ⟨hS2, ?_⟩
    have hq0 := hq
    clear hK K' hq hS1
    try go_frame
    refine takeH hS2 (i := 9) (d := 7) (v := .int .i64 ((z.ss.length : Nat))) rfl rfl (by kernel_rfl) (by kernel_rfl) (by kernel_rfl) (fun _ _ _ h => h) (Or.inl ⟨by kernel_rfl, fun w' hw' => by kernel_rfl⟩) ?_
    refine takeH hS2 (i := 10) (d := 8) (v := .int .i64 (0)) rfl rfl (by kernel_rfl) (by kernel_rfl) (by kernel_rfl) (fun _ _ _ h => h) (Or.inl ⟨by kernel_rfl, fun w' hw' => by kernel_rfl⟩) ?_
    refine wpAnyH_done (by kernel_rfl) ?_ _
    try go_frame
    have HF := Lib.hid (HSl.out.out hP2 hS2)
    have HRf := Lib.hid (hrp.keptB (HSl.out.g.below hB1 HSl.out.g.lt) (by decide) (by decide) hq0)
    clear hS2 hP2
    go_wp2_with fail
    exact bodyPost_ret (v := .tuple #[.agg (d7A { d with n := d.n + 1 } (.slice ap l.length cpp)), .int .i64 ((z.ss.length : Nat)), .int .i64 (0)]) (results_cell_slot2 Try.results28 _ _ (w.heap.size + 2) 27 _ _ _ _ rfl rfl rfl HF.out.g Try.underlying27 rfl Try.info7D) rfl ⟨_, _, rfl, HRf.out, HF.out.b⟩
end Go.Proofs.Ytajkajgnjcnolaa

