import Derived.Test.YtajkajgnjcnolaaMp11
namespace Go.Proofs.Ytajkajgnjcnolaa
open Go.RowKit
set_option linter.unusedVariables false
set_option linter.unnecessarySimpa false
set_option linter.unusedSimpArgs false
def sp7P (lo : Nat) (w : World) (l' : Value → List (R7z × Value)) (d : R7d) (e0 : Int) (e : Ending) (w' : World) : Prop :=
  ∃ v' u', e = .returned (.tuple #[.agg (d7A d v'), .int .i64 e0]) ∧ Row7 lo w' v' (l' u') ∧ Below w.heap.size w w'
section
variable {P : Program} {w : World} {o : Oper} {a : Act}
theorem exec_indexA {ty e : TypeId} {n : Nat} (x ix : Operand) (ho : o.op = .indexAddr ty x ix) (b i k : Nat) (hx : a.eval x = .pointer (some ⟨b, i, none⟩)) (hix : a.eval ix = .int .i64 (k : Nat)) (hu : P.underlying ty = some (.array n e)) (he : (P.info? e).map (·.size) = some 1) (hk : k < n) : (execOp a.eval o).run P w = .ok (.value (.pointer (some ⟨b, i + k, none⟩))) w := by
  obtain ⟨i0, hi0, hs0⟩ : ∃ i0, P.info? e = some i0 ∧ i0.size = 1 := by
    cases h : P.info? e with
    | none => rw [h] at he; cases he
    | some i0 => rw [h] at he; exact ⟨i0, rfl, by simpa using he⟩
  have hb : (0 : Int) ≤ (k : Nat) ∧ ((k : Nat) : Int) < (n : Nat) := by omega
  have hadd : (⟨b, i, none⟩ : Addr).add k = ⟨b, i + k, none⟩ := Addr.add_mid b i k
  unfold execOp
  simp only [ho, hx, hix]
  simp [Instr.indexAt, asIntOf, Instr.sureAddr, run_underlying hu, sizeOf, typeInfo, hi0, hs0, hadd, hk]
end
theorem flat_set {ss : List (List Nat)} (h : ∀ t ∈ ss, t.length = 64) (j : Nat) (hj : j < ss.length) (x : List Nat) (hx : x.length = 64) (k : Nat) (hk : k < 64) (c : Nat) : (flat (ss.set j x)).set (j * 64 + k) (.int .u8 (c : Nat)) = flat (ss.set j (x.set k c)) := by
  induction ss generalizing j with
  | nil => simp at hj
  | cons t ss ih =>
    have h1 := h t (by simp)
    cases j with
    | zero =>
      simp only [List.set_cons_zero, Nat.zero_mul, Nat.zero_add]
      unfold flat
      simp only [List.map_cons, List.flatten_cons]
      rw [List.set_append_left _ _ (by rw [bvals_length, hx]; exact hk)]
      congr 1
      simp [bvals, List.map_set]
    | succ j =>
      have h2 := ih (fun t ht => h t (by simp [ht])) j (by simpa using hj)
      simp only [List.set_cons_succ]
      unfold flat at *
      simp only [List.map_cons, List.flatten_cons]
      rw [List.set_append_right _ _ (by rw [bvals_length, h1]; omega), bvals_length, h1, show (j + 1) * 64 + k - 64 = j * 64 + k by omega, h2]
theorem flat_set_length {ss : List (List Nat)} (h : ∀ t ∈ ss, t.length = 64) (j : Nat) (x : List Nat) (hx : x.length = 64) : ∀ t ∈ ss.set j x, t.length = 64 := fun t ht => by
  rcases List.mem_or_eq_of_mem_set ht with h1 | rfl
  · exact h t h1
  · exact hx
theorem set_getD_same (ss : List (List Nat)) (j : Nat) (hj : j < ss.length) : ss.set j (ss.getD j []) = ss := by
  rw [List.getD_eq_getElem?_getD, List.getElem?_eq_getElem hj]
  exact List.set_getElem_self hj
set_option maxRecDepth 100000 in
set_option maxHeartbeats 2000000 in
theorem sp7_neg {lo : Nat} {w : World} {v : Value} {l : List (R7z × Value)} (d : R7d) (i off : Int) (p : List Nat) (hl : l.length ≤ 1000) (hr : Row7 lo w v l) (h0 : i < 0) :
    Calls Try.prog 76 #[.agg (d7A d v), .int .i64 i, .int .i64 off, .agg (bA p)] w (sp7P lo w (fun _ => l) d 13) := by
  obtain ⟨a, cap, rfl⟩ := own_slice hr.own
  obtain ⟨-, k1, k2⟩ := ownK_cap hr.own
  unfold maxLen at k2
  have HS : Hid (Trio7 27 33 27 w (d7A d (.slice a l.length cap)) (bA p) d7Z (((w.alloc (Obj.cells (d7A d (.slice a l.length cap)) 27)).alloc (Obj.cells (bA p) 33)).alloc (Obj.cells #[.slice none 0 0, .int .i64 0, .int .i64 0, .int .i64 0, .bool false] 27))) := Lib.hid Trio7.start
  have HR := Lib.hid hr
  clear hr
  go_enter Try.func76, Try.ntmps76
  go_upto_region 1 with fail
  generalize (((w.alloc (Obj.cells (d7A d (.slice a l.length cap)) 27)).alloc (Obj.cells (bA p) 33)).alloc (Obj.cells #[.slice none 0 0, .int .i64 0, .int .i64 0, .int .i64 0, .bool false] 27)) = w0 at *
  go_wp2_with (first | (refine wpl_load rfl _ rfl (w.heap.size) rfl _ _ _ (HS.out.x) Try.underlying27 rfl Try.info7D ?_; go_frame) | (refine wpl_store rfl _ _ rfl (w.heap.size + 2) (d7A d (.slice a l.length cap)) rfl rfl _ _ HS.out.g Try.info7D rfl (d7A_one _ _ _ _) ?_; intro w9 hSg hKg; have HSg := Lib.hid hSg; have HKg := Lib.hid hKg; clear hSg hKg; go_frame))
  have HF := Lib.hid (HS.out.out HSg.out HKg.out)
  exact bodyPost_ret (v := .tuple #[.agg (d7A d (.slice a l.length cap)), .int .i64 (13)]) (results_cell_slot Try.results76 _ _ (w.heap.size + 2) 27 _ _ _ rfl rfl HF.out.g Try.underlying27 rfl Try.info7D) rfl ⟨_, .slice none 0 0, rfl, HR.out.below HF.out.b, HF.out.b⟩
set_option maxRecDepth 100000 in
set_option maxHeartbeats 2000000 in
theorem sp7_big {lo : Nat} {w : World} {v : Value} {l : List (R7z × Value)} (d : R7d) (i off : Int) (p : List Nat) (hl : l.length ≤ 1000) (hr : Row7 lo w v l) (h0 : 0 ≤ i) (h2 : (l.length : Int) ≤ i) :
    Calls Try.prog 76 #[.agg (d7A d v), .int .i64 i, .int .i64 off, .agg (bA p)] w (sp7P lo w (fun _ => l) d 13) := by
  obtain ⟨a, cap, rfl⟩ := own_slice hr.own
  obtain ⟨-, k1, k2⟩ := ownK_cap hr.own
  unfold maxLen at k2
  have HS : Hid (Trio7 27 33 27 w (d7A d (.slice a l.length cap)) (bA p) d7Z (((w.alloc (Obj.cells (d7A d (.slice a l.length cap)) 27)).alloc (Obj.cells (bA p) 33)).alloc (Obj.cells #[.slice none 0 0, .int .i64 0, .int .i64 0, .int .i64 0, .bool false] 27))) := Lib.hid Trio7.start
  have HR := Lib.hid hr
  clear hr
  go_enter Try.func76, Try.ntmps76
  go_upto_region 1 with fail
  generalize (((w.alloc (Obj.cells (d7A d (.slice a l.length cap)) 27)).alloc (Obj.cells (bA p) 33)).alloc (Obj.cells #[.slice none 0 0, .int .i64 0, .int .i64 0, .int .i64 0, .bool false] 27)) = w0 at *
  have c0 : w0.cell? ⟨w.heap.size, 0, none⟩ = some (.slice a l.length cap) := (HS.out.x.cell 0).trans rfl
  go_wp2_with (first | (refine wpl_load rfl _ rfl (w.heap.size) rfl _ _ _ (HS.out.x) Try.underlying27 rfl Try.info7D ?_; go_frame) | (refine wpl_store rfl _ _ rfl (w.heap.size + 2) (d7A d (.slice a l.length cap)) rfl rfl _ _ HS.out.g Try.info7D rfl (d7A_one _ _ _ _) ?_; intro w9 hSg hKg; have HSg := Lib.hid hSg; have HKg := Lib.hid hKg; clear hSg hKg; go_frame))
  have HF := Lib.hid (HS.out.out HSg.out HKg.out)
  exact bodyPost_ret (v := .tuple #[.agg (d7A d (.slice a l.length cap)), .int .i64 (13)]) (results_cell_slot Try.results76 _ _ (w.heap.size + 2) 27 _ _ _ rfl rfl HF.out.g Try.underlying27 rfl Try.info7D) rfl ⟨_, .slice none 0 0, rfl, HR.out.below HF.out.b, HF.out.b⟩
set_option maxRecDepth 100000 in
set_option maxHeartbeats 8000000 in
theorem sp7_offneg {lo : Nat} {w : World} {v u : Value} {l : List (R7z × Value)} {k : Nat} {z : R7z} (d : R7d) (off : Int) (p : List Nat) (hl : l.length ≤ 1000) (hz1000 : z.ss.length ≤ 1000) (hr : Row7 lo w v l) (hlo : lo ≤ w.heap.size) (hp : l[k]? = some (z, u)) (h3 : off < 0) :
    Calls Try.prog 76 #[.agg (d7A d v), .int .i64 (k : Nat), .int .i64 off, .agg (bA p)] w (sp7P lo w (fun _ => l) d 31) := by
  obtain ⟨a, cap, rfl⟩ := own_slice hr.own
  obtain ⟨-, k1, k2⟩ := ownK_cap hr.own
  unfold maxLen at k2
  have hk : k < l.length := (List.getElem?_eq_some_iff.1 hp).1
  obtain ⟨g, rfl, _, _⟩ := ownK_form hr.own (by omega)
  have hu : w.ownsRow lo 33 64 u z.ss.length (flat z.ss) := hr.each _ (List.mem_of_getElem? hp)
  obtain ⟨b, cu, rfl⟩ := own_slice hu
  obtain ⟨-, q1, q2⟩ := ownK_cap hu
  unfold maxLen at q2
  have HS2 : Hid (Trio7 27 33 27 w (d7A d (.slice (some ⟨g, 0, none⟩) l.length cap)) (bA p) d7Z (((w.alloc (Obj.cells (d7A d (.slice (some ⟨g, 0, none⟩) l.length cap)) 27)).alloc (Obj.cells (bA p) 33)).alloc (Obj.cells #[.slice none 0 0, .int .i64 0, .int .i64 0, .int .i64 0, .bool false] 27))) := Lib.hid Trio7.start
  have HR := Lib.hid hr
  have HU := Lib.hid hu
  have Hlo := Lib.hid hlo
  have Hp := Lib.hid hp
  have Hk := Lib.hid hk
  clear hr hu hlo hp
  go_enter Try.func76, Try.ntmps76
  go_upto_region 1 with fail
  generalize (((w.alloc (Obj.cells (d7A d (.slice (some ⟨g, 0, none⟩) l.length cap)) 27)).alloc (Obj.cells (bA p) 33)).alloc (Obj.cells #[.slice none 0 0, .int .i64 0, .int .i64 0, .int .i64 0, .bool false] 27)) = w2 at *
  have HR2 := Lib.hid (HR.out.below HS2.out.b)
  have c0 := (HS2.out.x.cell 0).trans (show (d7A d (.slice (some ⟨g, 0, none⟩) l.length cap))[0]? = some (.slice (some ⟨g, 0, none⟩) l.length cap) from rfl)
  have HC := Lib.hid (row_range HR2.out.own rfl k _ Hp.out)
  go_upto_region 4 with (first | (refine wpl_load_z (by rfl) _ _ rfl g (k * 4) rfl (z, .slice b z.ss.length cu) _ HC.out Try.underlying87 rfl Try.info7Z ?_; go_frame) | (refine wpl_store_new rfl _ _ rfl (z7A z (.slice b z.ss.length cu)) w2 87 z7Z rfl rfl rfl Try.info7Z rfl (z7A_one _ _ _ _) ?_; go_frame))
  clear c0
  have HY3 := Lib.hid (Blk.new w2 87 (z7A z (.slice b z.ss.length cu)))
  have HB := below_alloc w2 (Obj.cells (z7A z (.slice b z.ss.length cu)) 87)
  have HS3 := Lib.hid (HS2.out.below HB)
  have HR3 := Lib.hid (HR2.out.below HB)
  have HU3 := Lib.hid (ownK_below (ownK_below HU.out HS2.out.b) HB)
  have Hgy := Lib.hid HS2.out.g.lt
  clear HB HR2 HC
  generalize w2.alloc (Obj.cells (z7A z (.slice b z.ss.length cu)) 87) = w3 at *
  generalize w2.heap.size = Y at *
  have c0 : w3.cell? ⟨Y, 0, none⟩ = some (.slice b z.ss.length cu) := (HY3.out.cell 0).trans rfl
  go_wp2_with (first | (refine wpl_load rfl _ rfl (w.heap.size) rfl _ _ _ (HS3.out.x) Try.underlying27 rfl Try.info7D ?_; go_frame) | (refine wpl_store rfl _ _ rfl (w.heap.size + 2) (d7A d (.slice (some ⟨g, 0, none⟩) l.length cap)) rfl rfl _ _ HS3.out.g Try.info7D rfl (d7A_one _ _ _ _) ?_; intro w9 hSg hKg; have HSg := Lib.hid hSg; have HKg := Lib.hid hKg; clear hSg hKg; go_frame))
  have HF := Lib.hid (HS3.out.out HSg.out HKg.out)
  exact bodyPost_ret (v := .tuple #[.agg (d7A d (.slice (some ⟨g, 0, none⟩) l.length cap)), .int .i64 (31)]) (results_cell_slot Try.results76 _ _ (w.heap.size + 2) 27 _ _ _ rfl rfl HF.out.g Try.underlying27 rfl Try.info7D) rfl ⟨_, .slice none 0 0, rfl, HR3.out.keptB HS3.out.g (by decide) (by decide) HKg.out, HF.out.b⟩
set_option maxRecDepth 100000 in
set_option maxHeartbeats 8000000 in
theorem sp7_offbig {lo : Nat} {w : World} {v u : Value} {l : List (R7z × Value)} {k : Nat} {z : R7z} (d : R7d) (off : Int) (p : List Nat) (hl : l.length ≤ 1000) (hz1000 : z.ss.length ≤ 1000) (hr : Row7 lo w v l) (hlo : lo ≤ w.heap.size) (hp : l[k]? = some (z, u)) (h3 : 0 ≤ off) (h4 : (z.ss.length : Int) ≤ off) :
    Calls Try.prog 76 #[.agg (d7A d v), .int .i64 (k : Nat), .int .i64 off, .agg (bA p)] w (sp7P lo w (fun _ => l) d 31) := by
  obtain ⟨a, cap, rfl⟩ := own_slice hr.own
  obtain ⟨-, k1, k2⟩ := ownK_cap hr.own
  unfold maxLen at k2
  have hk : k < l.length := (List.getElem?_eq_some_iff.1 hp).1
  obtain ⟨g, rfl, _, _⟩ := ownK_form hr.own (by omega)
  have hu : w.ownsRow lo 33 64 u z.ss.length (flat z.ss) := hr.each _ (List.mem_of_getElem? hp)
  obtain ⟨b, cu, rfl⟩ := own_slice hu
  obtain ⟨-, q1, q2⟩ := ownK_cap hu
  unfold maxLen at q2
  have HS2 : Hid (Trio7 27 33 27 w (d7A d (.slice (some ⟨g, 0, none⟩) l.length cap)) (bA p) d7Z (((w.alloc (Obj.cells (d7A d (.slice (some ⟨g, 0, none⟩) l.length cap)) 27)).alloc (Obj.cells (bA p) 33)).alloc (Obj.cells #[.slice none 0 0, .int .i64 0, .int .i64 0, .int .i64 0, .bool false] 27))) := Lib.hid Trio7.start
  have HR := Lib.hid hr
  have HU := Lib.hid hu
  have Hlo := Lib.hid hlo
  have Hp := Lib.hid hp
  have Hk := Lib.hid hk
  clear hr hu hlo hp
  go_enter Try.func76, Try.ntmps76
  go_upto_region 1 with fail
  generalize (((w.alloc (Obj.cells (d7A d (.slice (some ⟨g, 0, none⟩) l.length cap)) 27)).alloc (Obj.cells (bA p) 33)).alloc (Obj.cells #[.slice none 0 0, .int .i64 0, .int .i64 0, .int .i64 0, .bool false] 27)) = w2 at *
  have HR2 := Lib.hid (HR.out.below HS2.out.b)
  have c0 := (HS2.out.x.cell 0).trans (show (d7A d (.slice (some ⟨g, 0, none⟩) l.length cap))[0]? = some (.slice (some ⟨g, 0, none⟩) l.length cap) from rfl)
  have HC := Lib.hid (row_range HR2.out.own rfl k _ Hp.out)
  go_upto_region 4 with (first | (refine wpl_load_z (by rfl) _ _ rfl g (k * 4) rfl (z, .slice b z.ss.length cu) _ HC.out Try.underlying87 rfl Try.info7Z ?_; go_frame) | (refine wpl_store_new rfl _ _ rfl (z7A z (.slice b z.ss.length cu)) w2 87 z7Z rfl rfl rfl Try.info7Z rfl (z7A_one _ _ _ _) ?_; go_frame))
  clear c0
  have HY3 := Lib.hid (Blk.new w2 87 (z7A z (.slice b z.ss.length cu)))
  have HB := below_alloc w2 (Obj.cells (z7A z (.slice b z.ss.length cu)) 87)
  have HS3 := Lib.hid (HS2.out.below HB)
  have HR3 := Lib.hid (HR2.out.below HB)
  have HU3 := Lib.hid (ownK_below (ownK_below HU.out HS2.out.b) HB)
  have Hgy := Lib.hid HS2.out.g.lt
  clear HB HR2 HC
  generalize w2.alloc (Obj.cells (z7A z (.slice b z.ss.length cu)) 87) = w3 at *
  generalize w2.heap.size = Y at *
  have c0 : w3.cell? ⟨Y, 0, none⟩ = some (.slice b z.ss.length cu) := (HY3.out.cell 0).trans rfl
  go_wp2_with (first | (refine wpl_load rfl _ rfl (w.heap.size) rfl _ _ _ (HS3.out.x) Try.underlying27 rfl Try.info7D ?_; go_frame) | (refine wpl_store rfl _ _ rfl (w.heap.size + 2) (d7A d (.slice (some ⟨g, 0, none⟩) l.length cap)) rfl rfl _ _ HS3.out.g Try.info7D rfl (d7A_one _ _ _ _) ?_; intro w9 hSg hKg; have HSg := Lib.hid hSg; have HKg := Lib.hid hKg; clear hSg hKg; go_frame))
  have HF := Lib.hid (HS3.out.out HSg.out HKg.out)
  exact bodyPost_ret (v := .tuple #[.agg (d7A d (.slice (some ⟨g, 0, none⟩) l.length cap)), .int .i64 (31)]) (results_cell_slot Try.results76 _ _ (w.heap.size + 2) 27 _ _ _ rfl rfl HF.out.g Try.underlying27 rfl Try.info7D) rfl ⟨_, .slice none 0 0, rfl, HR3.out.keptB HS3.out.g (by decide) (by decide) HKg.out, HF.out.b⟩
theorem bvals_at' (l : List Nat) (i : Nat) (h : i < l.length) : (bvals l)[i]? = some (.int .u8 (l.getD i 0 : Nat)) := by simp [bvals, List.getD, h]
theorem Try.infoByte7 : (Try.prog.info? 5).map (·.size) = some 1 := by kernel_rfl
set_option maxRecDepth 100000 in
set_option maxHeartbeats 8000000 in
theorem sp7_ok {lo : Nat} {w : World} {v u : Value} {l : List (R7z × Value)} {k : Nat} {z : R7z} (d : R7d) (p : List Nat) (hl : l.length ≤ 1000) (hz1000 : z.ss.length ≤ 1000) (hr : Row7 lo w v l) (hlo : lo ≤ w.heap.size) (hp : l[k]? = some (z, u)) {j : Nat} {R : List Nat} (hj : j < z.ss.length) (h64 : ∀ t ∈ z.ss, t.length = 64) (hRe : R = z.ss.getD j []) (hR64 : R.length = 64) (hRb : ∀ c ∈ R, c < 256) (hp64 : p.length = 64) (hpb : ∀ c ∈ p, c < 256) :
    Calls Try.prog 76 #[.agg (d7A d v), .int .i64 (k : Nat), .int .i64 (j : Nat), .agg (bA p)] w (sp7P lo w (fun u' => l.set k ({ z with ss := z.ss.set j (zx R p 64) }, u')) d 0) := by
  obtain ⟨a, cap, rfl⟩ := own_slice hr.own
  obtain ⟨-, k1, k2⟩ := ownK_cap hr.own
  unfold maxLen at k2
  have hk : k < l.length := (List.getElem?_eq_some_iff.1 hp).1
  obtain ⟨g, rfl, _, _⟩ := ownK_form hr.own (by omega)
  have hu : w.ownsRow lo 33 64 u z.ss.length (flat z.ss) := hr.each _ (List.mem_of_getElem? hp)
  obtain ⟨b, cu, rfl⟩ := own_slice hu
  obtain ⟨-, q1, q2⟩ := ownK_cap hu
  unfold maxLen at q2
  have HS2 : Hid (Trio7 27 33 27 w (d7A d (.slice (some ⟨g, 0, none⟩) l.length cap)) (bA p) d7Z (((w.alloc (Obj.cells (d7A d (.slice (some ⟨g, 0, none⟩) l.length cap)) 27)).alloc (Obj.cells (bA p) 33)).alloc (Obj.cells #[.slice none 0 0, .int .i64 0, .int .i64 0, .int .i64 0, .bool false] 27))) := Lib.hid Trio7.start
  have HR := Lib.hid hr
  have HU := Lib.hid hu
  have Hlo := Lib.hid hlo
  have Hp := Lib.hid hp
  have Hk := Lib.hid hk
  clear hr hu hlo hp
  go_enter Try.func76, Try.ntmps76
  go_upto_region 1 with fail
  generalize (((w.alloc (Obj.cells (d7A d (.slice (some ⟨g, 0, none⟩) l.length cap)) 27)).alloc (Obj.cells (bA p) 33)).alloc (Obj.cells #[.slice none 0 0, .int .i64 0, .int .i64 0, .int .i64 0, .bool false] 27)) = w2 at *
  have HR2 := Lib.hid (HR.out.below HS2.out.b)
  have c0 := (HS2.out.x.cell 0).trans (show (d7A d (.slice (some ⟨g, 0, none⟩) l.length cap))[0]? = some (.slice (some ⟨g, 0, none⟩) l.length cap) from rfl)
  have HC := Lib.hid (row_range HR2.out.own rfl k _ Hp.out)
  go_upto_region 4 with (first | (refine wpl_load_z (by rfl) _ _ rfl g (k * 4) rfl (z, .slice b z.ss.length cu) _ HC.out Try.underlying87 rfl Try.info7Z ?_; go_frame) | (refine wpl_store_new rfl _ _ rfl (z7A z (.slice b z.ss.length cu)) w2 87 z7Z rfl rfl rfl Try.info7Z rfl (z7A_one _ _ _ _) ?_; go_frame))
  clear c0
  have HY3 := Lib.hid (Blk.new w2 87 (z7A z (.slice b z.ss.length cu)))
  have HB := below_alloc w2 (Obj.cells (z7A z (.slice b z.ss.length cu)) 87)
  have HS3 := Lib.hid (HS2.out.below HB)
  have HR3 := Lib.hid (HR2.out.below HB)
  have HU3 := Lib.hid (ownK_below (ownK_below HU.out HS2.out.b) HB)
  have Hgy := Lib.hid HS2.out.g.lt
  clear HB HR2 HC
  generalize w2.alloc (Obj.cells (z7A z (.slice b z.ss.length cu)) 87) = w3 at *
  generalize w2.heap.size = Y at *
  have c0 : w3.cell? ⟨Y, 0, none⟩ = some (.slice b z.ss.length cu) := (HY3.out.cell 0).trans rfl
  have hdj : decide (z.ss.length ≤ j) = false := decide_eq_false (by omega)
  have Hj := Lib.hid hj
  have H64 := Lib.hid h64
  have HRe := Lib.hid hRe
  have HR64 := Lib.hid hR64
  have HRb := Lib.hid hRb
  have HP64 := Lib.hid hp64
  have HPb := Lib.hid hpb
  clear h64 hRe hR64 hRb hp64 hpb
  obtain ⟨gz, rfl, _, _⟩ := ownK_form HU.out (by omega)
  have hzr : ∀ w', (zeroValue 33).run Try.prog w' = .ok (.agg (bA (zeros 64))) w' := zero_s64
  clear hzr
  have hlo3 : lo ≤ w3.heap.size := by have := HS3.out.b.size; have := Hlo.out; omega
  have HY3l := Lib.hid HY3.out.lt
  go_upto_region 8 with (refine wpl_appendK el7S rfl (.tmp 38) (.tmp 40) rfl lo (.slice none 0 0) 0 [] rfl (ownK_nil _ _ _ _) (some ⟨gz, 0, none⟩) z.ss.length cu (flat z.ss) rfl (flat_length H64.out) (ownK_src HU3.out).1 (ownK_src HU3.out).2 (flat_ones _) (by omega) (by omega) ?_; intro v6 w6 hown hgr hv6; have hf6 : ∀ g, v6.ownBlock = some g → w3.heap.size ≤ g := (fun g hg => by rcases hv6 with h | h; (rw [h] at hg; simp [Value.ownBlock] at hg); (rw [h] at hg; injection hg with hg; omega)); have HB6 : Hid (Below w3.heap.size w3 w6) := Lib.hid ((Below.refl _ _).grown hgr (Nat.le_refl _) (fun k e => by simp [Value.ownBlock] at e)); rw [Nat.zero_add, List.nil_append] at hown; obtain ⟨a6, cpo, rfl⟩ := own_slice hown; obtain ⟨go, rfl, _, _⟩ := ownK_form hown (Nat.lt_of_le_of_lt (Nat.zero_le _) Hj.out); have Hown := Lib.hid hown; have Hgo := Lib.hid (hf6 go rfl); clear hown hgr hv6 hf6; go_frame)
  have HS6 := Lib.hid (HS3.out.below HB6.out)
  have HY6 := Lib.hid (HY3.out.below HB6.out HY3.out.lt)
  have HR6 := Lib.hid (HR3.out.below HB6.out)
  have Hgo2 := Lib.hid (show Y < go by have := Hgo.out; have := HY3l.out; omega)
  have Hgo3 := Lib.hid (show w.heap.size + 2 < go by have := Hgo2.out; have := Hgy.out; omega)
  have hS30 := HS3.out.g.lt
  have HR0 := Lib.hid (HR3.out)
  clear c0 HS3 HY3 HU3 HB6 hlo3 hS30 HS2
  go_wp2_with fail
  go_loopw [12] (fun i wr => ∃ q : Nat, q ≤ 64 ∧ i = .int .i64 q ∧ Kept (· = go) w6 wr ∧ wr.ownsRow lo 33 64 (.slice (some ⟨go, 0, none⟩) z.ss.length cpo) z.ss.length (flat (z.ss.set j (xl R p q)))) (fun i _ => 64 - (intOf i).toNat)
  case atStart => exact ⟨0, Nat.zero_le _, rfl, Kept.refl _ _, by rw [xl_zero _ _ HR64.out, HRe.out, set_getD_same _ _ Hj.out]; exact Hown.out⟩
  case round =>
    obtain ⟨q, hq, rfl, hkp, ho⟩ := hrel
    have HKp := Lib.hid hkp
    have HO := Lib.hid ho
    have HSr := Lib.hid (HS6.out.kept HKp.out Hgo3.out)
    clear hkp ho
    by_cases hlt : q < 64
    · have lx := getD_lt HRb.out q
      have ly := getD_lt HPb.out q
      have hxor := u8_xor_nat _ _ lx ly
      have hset := xl_set R p q hlt
      have hxa := xl_at R p q hlt
      have hll := xl_length R p q
      have hcg : wr.cell? ⟨go, j * 64 + q, none⟩ = some (.int .u8 (R.getD q 0 : Nat)) := by
        have hw64 := flat_set_length H64.out j (xl R p q) hll
        have hjl : j < (z.ss.set j (xl R p q)).length := by rw [List.length_set]; exact Hj.out
        have h1 := HO.out.cellAt (j * 64 + q) (by have := Hj.out; omega)
        rw [flat_at hw64 j hjl q hlt, List.getD_eq_getElem?_getD, List.getElem?_set_self Hj.out] at h1
        exact h1.trans ((bvals_at' _ q (by show q < (xl R p q).length; rw [hll]; exact hlt)).trans (by show some (Value.int .u8 ((xl R p q).getD q 0 : Nat)) = _; rw [hxa]))
      have hfg := HO.out.frozenAt (j * 64 + q)
      have hyc : (bA p)[q]? = some (.int .u8 (p.getD q 0 : Nat)) := bA_at _ q (by rw [HP64.out]; exact hlt)
      obtain ⟨hst, _⟩ := HO.out.stored (j * 64 + q) (.int .u8 ((R.getD q 0 ^^^ p.getD q 0 : Nat)))
      rw [flat_set H64.out j Hj.out _ hll q hlt, hset] at hst
      have Hst := Lib.hid hst
      have Hy := Lib.hid hyc
      have Hcg := Lib.hid hcg
      have Hfg := Lib.hid hfg
      clear hset hxa hll hcg hfg hyc hst
      generalize R.getD q 0 ^^^ p.getD q 0 = c at *
      generalize R.getD q 0 = x at *
      generalize p.getD q 0 = y at *
      go_upto_region 11 with fail
      refine wp_only ?_
      refine wp_region_held (S := fun w' => Kept (· = go) wr w') (by kernel_rfl) ?_
      change wpAnyH _ _ _ _ _ _ _ _ (World.drew _)
      have hS : Kept (· = go) wr wr.drew := (Kept.refl _ _).drew
      have HcgD : Hid (wr.drew.cell? ⟨go, j * 64 + q, none⟩ = some (.int .u8 (x : Nat))) := Lib.hid Hcg.out
      have HfgD : Hid (wr.drew.frozen? ⟨go, j * 64 + q, none⟩ = false) := Lib.hid Hfg.out
      have HO2 : Hid ((wr.drew.setCell ⟨go, j * 64 + q, none⟩ (.int .u8 (c : Nat))).ownsRow lo 33 64 (.slice (some ⟨go, 0, none⟩) z.ss.length cpo) z.ss.length (flat (z.ss.set j (xl R p (q + 1))))) := Lib.hid Hst.out
      generalize wr.drew = wd at *
      refine takeH hS (i := 0) (d := 46) (v := .slice (some ⟨go, 0, none⟩) z.ss.length cpo) rfl rfl (by kernel_rfl) (by kernel_rfl) (by kernel_rfl) (fun _ _ _ h => h) (Or.inl ⟨by kernel_rfl, fun w' hw' => by kernel_rfl⟩) ?_
      refine takeH hS (i := 1) (d := 47) (v := .int .i64 (j : Nat)) rfl rfl (by kernel_rfl) (by kernel_rfl) (by kernel_rfl) (fun _ _ _ h => h) (Or.inl ⟨by kernel_rfl, fun w' hw' => by kernel_rfl⟩) ?_
      refine takeH hS (i := 2) (d := 48) (v := .int .i64 (q : Nat)) rfl rfl (by kernel_rfl) (by kernel_rfl) (by kernel_rfl) (fun _ _ _ h => h) (Or.inl ⟨by kernel_rfl, fun w' hw' => by kernel_rfl⟩) ?_
      refine takeH hS (i := 3) (d := 49) (v := .slice (some ⟨go, 0, none⟩) z.ss.length cpo) rfl rfl (by kernel_rfl) (by kernel_rfl) (by kernel_rfl) (fun _ _ _ h => h) (Or.inl ⟨by kernel_rfl, fun w' hw' => by kernel_rfl⟩) ?_
      try go_frame
      refine takeH hS (i := 4) (d := 50) (v := .int .i64 (j : Nat)) rfl rfl (by kernel_rfl) (by kernel_rfl) (by kernel_rfl) (fun _ _ _ h => h) (Or.inl ⟨by kernel_rfl, fun w' hw' => by kernel_rfl⟩) ?_
      refine takeH hS (i := 5) (d := 51) (v := .int .i64 (q : Nat)) rfl rfl (by kernel_rfl) (by kernel_rfl) (by kernel_rfl) (fun _ _ _ h => h) (Or.inl ⟨by kernel_rfl, fun w' hw' => by kernel_rfl⟩) ?_
      refine takeH hS (i := 6) (d := 52) (v := .pointer (some ⟨go, j * 64, none⟩)) rfl rfl (by kernel_rfl) (by kernel_rfl) (by kernel_rfl) (fun _ _ _ h => h) (Or.inl ⟨by kernel_rfl, fun w' hw' => by exact exec_indexK el7S _ _ rfl go z.ss.length cpo j rfl rfl Hj.out⟩) ?_
      refine takeH hS (i := 7) (d := 53) (v := .pointer (some ⟨go, j * 64 + q, none⟩)) rfl rfl (by kernel_rfl) (by kernel_rfl) (by kernel_rfl) (fun _ _ _ h => h) (Or.inl ⟨by kernel_rfl, fun w' hw' => by exact exec_indexA _ _ rfl go (j * 64) q rfl rfl Try.underlying33 Try.infoByte7 hlt⟩) ?_
      try go_frame
      refine takeH hS (i := 9) (d := 55) (v := .int .i64 (q : Nat)) rfl rfl (by kernel_rfl) (by kernel_rfl) (by kernel_rfl) (fun _ _ _ h => h) (Or.inl ⟨by kernel_rfl, fun w' hw' => by kernel_rfl⟩) ?_
      refine takeH hS (i := 10) (d := 56) (v := .pointer (some ⟨w.heap.size + 1, q, none⟩)) rfl rfl (by kernel_rfl) (by kernel_rfl) (by kernel_rfl) (fun _ _ _ h => h) (Or.inl ⟨by kernel_rfl, fun w' hw' => by (refine (exec_indexA _ _ rfl (w.heap.size + 1) 0 q rfl rfl Try.underlying33 Try.infoByte7 hlt).trans ?_; rw [Nat.zero_add])⟩) ?_
      refine takeH hS (i := 11) (d := 57) (v := .int .u8 (y : Nat)) rfl rfl (by kernel_rfl) (by kernel_rfl) (by kernel_rfl) (fun _ _ _ h => h) (Or.inl ⟨by kernel_rfl, fun w' hw' => by exact exec_cell _ rfl ⟨w.heap.size + 1, q, none⟩ rfl _ Try.underlying5 (((HSr.out.y.kept hw' (by have := Hgo3.out; omega)).cell q).trans Hy.out)⟩) ?_
      refine takeH hS (i := 13) (d := 59) (v := .pointer (some ⟨go, j * 64, none⟩)) rfl rfl (by kernel_rfl) (by kernel_rfl) (by kernel_rfl) (fun _ _ _ h => h) (Or.inl ⟨by kernel_rfl, fun w' hw' => by exact exec_indexK el7S _ _ rfl go z.ss.length cpo j rfl rfl Hj.out⟩) ?_
      try go_frame
      have cg := HcgD.out
      have fg := HfgD.out
      refine nextH (i := 8) rfl (by kernel_rfl) (by kernel_rfl) (fun K' hK => ?_)
      go_wp2_with fail
      refine hK.out _ _ ⟨hS, ?_⟩
      clear hK K'
      try go_frame
      refine nextH (i := 12) rfl (by kernel_rfl) (by kernel_rfl) (fun K' hK => ?_)
      go_wp2_with fail
      refine hK.out _ _ ⟨hS, ?_⟩
      clear hK K'
      try go_frame
      refine takeH hS (i := 14) (d := 60) (v := .pointer (some ⟨go, j * 64 + q, none⟩)) rfl rfl (by kernel_rfl) (by kernel_rfl) (by kernel_rfl) (fun _ _ _ h => h) (Or.inl ⟨by kernel_rfl, fun w' hw' => by exact exec_indexA _ _ rfl go (j * 64) q rfl rfl Try.underlying33 Try.infoByte7 hlt⟩) ?_
      try go_frame
      refine nextH (i := 15) rfl (by kernel_rfl) (by kernel_rfl) (fun K' hK => ?_)
      go_wp2_with fail
      have hS2 : Kept (· = go) wr (wd.setCell ⟨go, j * 64 + q, none⟩ (.int .u8 (c : Nat))) := hS.setCell (p := ⟨go, j * 64 + q, none⟩) rfl _
      refine hK.out _ _ ⟨hS2, ?_⟩
      clear hK K' cg fg hS
      try go_frame
      have HKp2 := Lib.hid (HKp.out.trans hS2)
      clear hS2
      generalize wd.setCell ⟨go, j * 64 + q, none⟩ (.int .u8 (c : Nat)) = w7 at *
      refine wpAnyH_done (by kernel_rfl) ?_ _
      go_wp2_with fail
      go_roundw
      case rel => exact ⟨q + 1, by omega, by go_num, HKp2.out, HO2.out⟩
      case measure => simp [intOf]; omega
    · obtain rfl : q = 64 := by omega
      have HY7 := Lib.hid (HY6.out.kept HKp.out (by have := Hgo2.out; omega))
      have HR7 := Lib.hid (HR6.out.keptN HR.out (show w.heap.size ≤ go by have := Hgo3.out; omega) HKp.out)
      have c0 := (HY7.out.cell 0).trans (show (z7A z (.slice (some ⟨gz, 0, none⟩) z.ss.length cu))[0]? = some (.slice (some ⟨gz, 0, none⟩) z.ss.length cu) from rfl)
      have f0 := HY7.out.frozen 0
      have hlor : lo ≤ wr.heap.size := by have := HSr.out.b.size; have := Hlo.out; omega
      go_upto_region 13 with fail
      have hkY := (Kept.refl (· = Y) wr).setCell (p := ⟨Y, 0, none⟩) rfl (.slice (some ⟨go, 0, none⟩) z.ss.length cpo)
      have HY8 : Hid (Blk (wr.setCell ⟨Y, 0, none⟩ (.slice (some ⟨go, 0, none⟩) z.ss.length cpo)) Y 87 (z7A z (.slice (some ⟨go, 0, none⟩) z.ss.length cpo))) := Lib.hid (HY7.out.set 0 _)
      have HS8 := Lib.hid (HSr.out.kept hkY Hgy.out)
      have HR8 := Lib.hid (HR7.out.keptN HR.out (show w.heap.size ≤ Y by have := Hgy.out; omega) hkY)
      have HO8 := Lib.hid (own_kept HO.out hkY (fun i hi e => by have h2 : go = i := (by simpa [Value.ownBlock] using hi); have := Hgo2.out; omega))
      have hlo8 : lo ≤ (wr.setCell ⟨Y, 0, none⟩ (.slice (some ⟨go, 0, none⟩) z.ss.length cpo)).heap.size := Nat.le_trans hlor hkY.size
      clear c0 f0 hkY HY7 HR7 HSr HO HS6 HY6 HR6
      generalize wr.setCell ⟨Y, 0, none⟩ (.slice (some ⟨go, 0, none⟩) z.ss.length cpo) = w8 at *
      go_wp2_with (first | (refine wpl_load rfl _ rfl (w.heap.size) rfl _ _ _ (HS8.out.x) Try.underlying27 rfl Try.info7D ?_; go_frame) | (refine wpl_load rfl _ rfl (Y) rfl _ _ _ (HY8.out) Try.underlying87 rfl Try.info7Z ?_; go_frame))
      refine (p7 (u := (.slice (some ⟨go, 0, none⟩) z.ss.length cpo)) d { z with ss := z.ss.set j (zx R p 64) } k Hk.out hl HR8.out (by show World.ownsRow _ _ _ _ _ (z.ss.set j (zx R p 64)).length (flat (z.ss.set j (zx R p 64))); rw [List.length_set, ← xl_full]; exact HO8.out) hlo8).mono ?_
      rintro e w9 ⟨v', rfl, hr9, hb⟩
      obtain ⟨a9, c9, hv9⟩ := own_slice hr9.own
      rw [List.length_set] at hv9
      subst hv9
      have HS9 := Lib.hid (HS8.out.below hb)
      have HR9 := Lib.hid hr9
      clear hb hr9
      go_wp2_with (first | (refine wpl_store rfl _ _ rfl (w.heap.size + 2) (d7A d (.slice a9 l.length c9)) rfl rfl _ _ HS9.out.g Try.info7D rfl (d7A_one _ _ _ _) ?_; intro w10 hSg hKg; have HSg := Lib.hid hSg; have HKg := Lib.hid hKg; clear hSg hKg; go_frame))
      have HF := Lib.hid (HS9.out.out HSg.out HKg.out)
      exact bodyPost_ret (v := .tuple #[.agg (d7A d (.slice a9 l.length c9)), .int .i64 (0)]) (results_cell_slot Try.results76 _ _ (w.heap.size + 2) 27 _ _ _ rfl rfl HF.out.g Try.underlying27 rfl Try.info7D) rfl ⟨_, _, rfl, HR9.out.keptB HS9.out.g (by decide) (by decide) HKg.out, HF.out.b⟩
end Go.Proofs.Ytajkajgnjcnolaa

