import Derived.Test.YtajkajgnjcnolaaMp11
namespace Go.Proofs.Ytajkajgnjcnolaa
open Go.RowKit
set_option linter.unusedVariables false
set_option linter.unnecessarySimpa false
set_option linter.unusedSimpArgs false
theorem results_cell2_slot {P : Program} {fn : Func} {p p' q : Tmp} {ty ty' : TypeId} (h : fn.results = #[.cell p ty, .cell p' ty', .tmp q]) (tmps : Array Value) (w : World) (g g' : Nat) (t t' : TypeId) (cs cs' : Array Value) (v : Value) (d d' : TypeDesc)
    (hp : tmps.getD p undef = .pointer (some ⟨g, 0, none⟩)) (hp' : tmps.getD p' undef = .pointer (some ⟨g', 0, none⟩)) (hq : tmps.getD q undef = v) (hg : Blk w g t cs) (hg' : Blk w g' t' cs')
    (hu : P.underlying ty = some d) (hd : (match d with | .struct _ | .array _ _ => true | _ => false) = true) (hi : (P.info? ty).map (·.size) = some cs.size)
    (hu' : P.underlying ty' = some d') (hd' : (match d' with | .struct _ | .array _ _ => true | _ => false) = true) (hi' : (P.info? ty').map (·.size) = some cs'.size) :
    (results fn tmps).run P w = .ok (.tuple #[.agg cs, .agg cs', v]) w := by
  have e1 : tmps[p]?.getD undef = .pointer (some ⟨g, 0, none⟩) := by simpa using hp
  have e2 : tmps[p']?.getD undef = .pointer (some ⟨g', 0, none⟩) := by simpa using hp'
  have e3 : tmps[q]?.getD undef = v := by simpa using hq
  simp [results, h, e1, e2, e3, asAddr, run_loadVar_row w g t ty cs (0, 0) d hg hu hd hi, run_loadVar_row w g' t' ty' cs' (0, 0) d' hg' hu' hd' hi']
section
variable {P : Program} {w : World} {o : Oper} {a : Act}
theorem exec_load_b (ty : TypeId) (x : Operand) (ho : o.op = .load ty x) (b i : Nat) (hx : a.eval x = .pointer (some ⟨b, i, none⟩)) (s : List Nat) (d : TypeDesc) (hc : w.rangeAt b i (bvals s))
    (hu : P.underlying ty = some d) (hd : d.isRow = true) (hi : (P.info? ty).map (·.size) = some (bvals s).length) : (execOp a.eval o).run P w = .ok (.value (.agg (bA s))) w := by
  unfold execOp
  simp only [ho, hx, Instr.loadAt, Instr.sureAddr, Sem.run_bind, Sem.run_pure, Result.andThen_ok, run_loadVar_mid w b i ty (bvals s) d hc hu hd hi]
  rfl
end
def rd7Z (z : R7z) (off : Int) : Int := if z.state = 4 then 32 else if off < 0 ∨ (z.ss.length : Int) ≤ off then 31 else 0
def rd7E (d : R7d) (l : List (R7z × Value)) (i off : Int) : Int := if b7E d l.length i ≠ 0 then b7E d l.length i else rd7Z (zat l i) off
def rd7V (d : R7d) (l : List (R7z × Value)) (i off : Int) : List Nat := if rd7E d l i off = 0 then (zat l i).ss.getD off.toNat [] else zeros 64
def rd7P (w : World) (d : R7d) (v : Value) (V : List Nat) (e0 : Int) (e : Ending) (w' : World) : Prop :=
  e = .returned (.tuple #[.agg (d7A d v), .agg (bA V), .int .i64 e0]) ∧ Below w.heap.size w w'
set_option maxRecDepth 100000 in
set_option maxHeartbeats 2000000 in
theorem rd7_no {lo : Nat} {w : World} {v : Value} {l : List (R7z × Value)} (d : R7d) (i off : Int) (hn : 0 ≤ d.n ∧ d.n ≤ 1000000) (hl : l.length ≤ 1000) (hr : Row7 lo w v l) (h1 : b7E d l.length i ≠ 0) :
    Calls Try.prog 30 #[.agg (d7A d v), .int .i64 i, .int .i64 off] w (rd7P w d v (zeros 64) (b7E d l.length i)) := by
  obtain ⟨a, cap, rfl⟩ := own_slice hr.own
  have hD : b7R d l.length i = d := by unfold b7R; rw [if_neg h1]
  have h1' : (b7E d l.length i != 0) = true := by simpa using h1
  have HD := Lib.hid hD
  have HS : Hid (Trio7 27 27 33 w (d7A d (.slice a l.length cap)) d7Z (bA (zeros 64)) (((w.alloc (Obj.cells (d7A d (.slice a l.length cap)) 27)).alloc (Obj.cells #[.slice none 0 0, .int .i64 0, .int .i64 0, .int .i64 0, .bool false] 27)).alloc (Obj.cells (bA (zeros 64)) 33))) := Lib.hid Trio7.start
  have hz64 := zero_s64
  have Hn := Lib.hid hn
  clear h1 hD hn
  go_enter Try.func30, Try.ntmps30
  go_upto_region 1 with fail
  generalize (((w.alloc (Obj.cells (d7A d (.slice a l.length cap)) 27)).alloc (Obj.cells #[.slice none 0 0, .int .i64 0, .int .i64 0, .int .i64 0, .bool false] 27)).alloc (Obj.cells (bA (zeros 64)) 33)) = w0 at *
  go_wp2_with (first | (refine wpl_load rfl _ rfl (w.heap.size) rfl _ _ _ (HS.out.x) Try.underlying27 rfl Try.info7D ?_; go_frame))
  refine (b7 d a l.length cap i _ Hn.out hl).mono ?_
  rintro e w1 ⟨rfl, hb⟩
  rw [HD.out]
  have HS1 := Lib.hid (HS.out.below hb)
  clear hb
  go_upto_region 2 with (first | (refine wpl_store rfl _ _ rfl (w.heap.size) (d7A d (.slice a l.length cap)) rfl rfl _ _ HS1.out.x Try.info7D rfl (d7A_one _ _ _ _) ?_; intro w2 hX hK; have HS2 := Lib.hid (HS1.out.newx hX hK); clear hX hK; go_frame))
  go_wp2_with (first | (refine wpl_load rfl _ rfl (w.heap.size) rfl _ _ _ (HS2.out.x) Try.underlying27 rfl Try.info7D ?_; go_frame) | (refine wpl_store rfl _ _ rfl (w.heap.size + 1) (d7A d (.slice a l.length cap)) rfl rfl _ _ HS2.out.y Try.info7D rfl (d7A_one _ _ _ _) ?_; intro w8 hX hK; have HSy := Lib.hid (HS2.out.newy hX hK); clear hX hK; go_frame) | (refine wpl_store rfl _ _ rfl (w.heap.size + 2) (bA (zeros 64)) rfl rfl _ _ HSy.out.g (info_64 (zeros_length 64)) rfl (bA_one _) ?_; intro w9 hSg hKg; have HF := Lib.hid (HSy.out.out hSg hKg); clear hSg hKg; go_frame))
  exact bodyPost_ret (v := .tuple #[.agg (d7A d (.slice a l.length cap)), .agg (bA (zeros 64)), .int .i64 (b7E d l.length i)]) (results_cell2_slot Try.results30 _ _ (w.heap.size + 1) (w.heap.size + 2) 27 33 _ _ _ _ _ rfl rfl rfl HF.out.y HF.out.g Try.underlying27 rfl Try.info7D Try.underlying33 rfl (info_64 (zeros_length 64))) rfl ⟨rfl, HF.out.b⟩
set_option maxRecDepth 100000 in
set_option maxHeartbeats 4000000 in
theorem rd7_off {lo : Nat} {w : World} {v u : Value} {l : List (R7z × Value)} {k : Nat} {z : R7z} (d : R7d) (off : Int) (hn : 0 ≤ d.n ∧ d.n ≤ 1000000) (hl : l.length ≤ 1000) (hz1000 : z.ss.length ≤ 1000) (hr : Row7 lo w v l) (hlo : lo ≤ w.heap.size) (hp : l[k]? = some (z, u)) (h1 : b7E d l.length (k : Int) = 0) (h2 : z.state = 4) :
    Calls Try.prog 30 #[.agg (d7A d v), .int .i64 (k : Nat), .int .i64 off] w (rd7P w { d with n := d.n + 1 } v (zeros 64) 32) := by
  obtain ⟨a, cap, rfl⟩ := own_slice hr.own
  obtain ⟨-, k1, k2⟩ := ownK_cap hr.own
  unfold maxLen at k2
  have hk : k < l.length := (List.getElem?_eq_some_iff.1 hp).1
  have hD : b7R d l.length (k : Int) = { d with n := d.n + 1 } := by unfold b7R; rw [if_pos h1]
  obtain ⟨g, rfl, _, _⟩ := ownK_form hr.own (by omega)
  have hu : w.ownsRow lo 33 64 u z.ss.length (flat z.ss) := hr.each _ (List.mem_of_getElem? hp)
  obtain ⟨b, cu, rfl⟩ := own_slice hu
  obtain ⟨-, q1, q2⟩ := ownK_cap hu
  unfold maxLen at q2
  have HS : Hid (Trio7 27 27 33 w (d7A d (.slice (some ⟨g, 0, none⟩) l.length cap)) d7Z (bA (zeros 64)) (((w.alloc (Obj.cells (d7A d (.slice (some ⟨g, 0, none⟩) l.length cap)) 27)).alloc (Obj.cells #[.slice none 0 0, .int .i64 0, .int .i64 0, .int .i64 0, .bool false] 27)).alloc (Obj.cells (bA (zeros 64)) 33))) := Lib.hid Trio7.start
  have hz64 := zero_s64
  have HR := Lib.hid hr
  have HU := Lib.hid hu
  have Hlo := Lib.hid hlo
  have Hn := Lib.hid hn
  have Hk := Lib.hid hk
  have Hp := Lib.hid hp
  have H1 := Lib.hid h1
  have HD := Lib.hid hD
  clear hr hu hlo hn hp h1 hD
  go_enter Try.func30, Try.ntmps30
  go_upto_region 1 with fail
  generalize (((w.alloc (Obj.cells (d7A d (.slice (some ⟨g, 0, none⟩) l.length cap)) 27)).alloc (Obj.cells #[.slice none 0 0, .int .i64 0, .int .i64 0, .int .i64 0, .bool false] 27)).alloc (Obj.cells (bA (zeros 64)) 33)) = w0 at *
  go_wp2_with (first | (refine wpl_load rfl _ rfl (w.heap.size) rfl _ _ _ (HS.out.x) Try.underlying27 rfl Try.info7D ?_; go_frame))
  refine (b7 d (some ⟨g, 0, none⟩) l.length cap (k : Int) _ Hn.out hl).mono ?_
  rintro e w1 ⟨rfl, hb⟩
  rw [H1.out, HD.out]
  have HS1 := Lib.hid (HS.out.below hb)
  clear hb
  go_upto_region 2 with (first | (refine wpl_store rfl _ _ rfl (w.heap.size) (d7A { d with n := d.n + 1 } (.slice (some ⟨g, 0, none⟩) l.length cap)) rfl rfl _ _ HS1.out.x Try.info7D rfl (d7A_one _ _ _ _) ?_; intro w2 hX hK; have HS2 := Lib.hid (HS1.out.newx hX hK); clear hX hK; go_frame))
  have HR2 := Lib.hid (HR.out.below HS2.out.b)
  have c0 := (HS2.out.x.cell 0).trans (show (d7A { d with n := d.n + 1 } (.slice (some ⟨g, 0, none⟩) l.length cap))[0]? = some (.slice (some ⟨g, 0, none⟩) l.length cap) from rfl)
  have HC := Lib.hid (row_range HR2.out.own rfl k _ Hp.out)
  go_upto_region 5 with (first | (refine wpl_load_z (by rfl) _ _ rfl g (k * 4) rfl (z, .slice b z.ss.length cu) _ HC.out Try.underlying87 rfl Try.info7Z ?_; go_frame) | (refine wpl_store_new rfl _ _ rfl (z7A z (.slice b z.ss.length cu)) w2 87 z7Z rfl rfl rfl Try.info7Z rfl (z7A_one _ _ _ _) ?_; go_frame))
  clear c0
  have HY := Lib.hid (Blk.new w2 87 (z7A z (.slice b z.ss.length cu)))
  have HB := below_alloc w2 (Obj.cells (z7A z (.slice b z.ss.length cu)) 87)
  have HS3 := Lib.hid (HS2.out.below HB)
  have HU3 := Lib.hid (ownK_below (ownK_below HU.out HS2.out.b) HB)
  have Hgy := Lib.hid HS2.out.g.lt
  clear HB HS HS1 HR2 HC HR
  generalize w2.alloc (Obj.cells (z7A z (.slice b z.ss.length cu)) 87) = w3 at *
  generalize w2.heap.size = Y at *
  have c0 : w3.cell? ⟨Y, 0, none⟩ = some (.slice b z.ss.length cu) := (HY.out.cell 0).trans rfl
  have c2 : w3.cell? ⟨Y, 2, none⟩ = some (.int .i64 4) := (HY.out.cell 2).trans (congrArg (fun t => some (Value.int .i64 t)) h2)
  clear h2
  go_wp2_with (first | (refine wpl_load rfl _ rfl (w.heap.size) rfl _ _ _ (HS3.out.x) Try.underlying27 rfl Try.info7D ?_; go_frame) | (refine wpl_store rfl _ _ rfl (w.heap.size + 1) (d7A { d with n := d.n + 1 } (.slice (some ⟨g, 0, none⟩) l.length cap)) rfl rfl _ _ HS3.out.y Try.info7D rfl (d7A_one _ _ _ _) ?_; intro w8 hX hK; have HSy := Lib.hid (HS3.out.newy hX hK); clear hX hK; go_frame) | (refine wpl_store rfl _ _ rfl (w.heap.size + 2) (bA (zeros 64)) rfl rfl _ _ HSy.out.g (info_64 (zeros_length 64)) rfl (bA_one _) ?_; intro w9 hSg hKg; have HF := Lib.hid (HSy.out.out hSg hKg); clear hSg hKg; go_frame))
  exact bodyPost_ret (v := .tuple #[.agg (d7A { d with n := d.n + 1 } (.slice (some ⟨g, 0, none⟩) l.length cap)), .agg (bA (zeros 64)), .int .i64 (32)]) (results_cell2_slot Try.results30 _ _ (w.heap.size + 1) (w.heap.size + 2) 27 33 _ _ _ _ _ rfl rfl rfl HF.out.y HF.out.g Try.underlying27 rfl Try.info7D Try.underlying33 rfl (info_64 (zeros_length 64))) rfl ⟨rfl, HF.out.b⟩
set_option maxRecDepth 100000 in
set_option maxHeartbeats 4000000 in
theorem rd7_neg {lo : Nat} {w : World} {v u : Value} {l : List (R7z × Value)} {k : Nat} {z : R7z} (d : R7d) (off : Int) (hn : 0 ≤ d.n ∧ d.n ≤ 1000000) (hl : l.length ≤ 1000) (hz1000 : z.ss.length ≤ 1000) (hr : Row7 lo w v l) (hlo : lo ≤ w.heap.size) (hp : l[k]? = some (z, u)) (h1 : b7E d l.length (k : Int) = 0) (h2 : z.state ≠ 4) (h3 : off < 0) :
    Calls Try.prog 30 #[.agg (d7A d v), .int .i64 (k : Nat), .int .i64 off] w (rd7P w { d with n := d.n + 1 } v (zeros 64) 31) := by
  obtain ⟨a, cap, rfl⟩ := own_slice hr.own
  obtain ⟨-, k1, k2⟩ := ownK_cap hr.own
  unfold maxLen at k2
  have hk : k < l.length := (List.getElem?_eq_some_iff.1 hp).1
  have hD : b7R d l.length (k : Int) = { d with n := d.n + 1 } := by unfold b7R; rw [if_pos h1]
  obtain ⟨g, rfl, _, _⟩ := ownK_form hr.own (by omega)
  have hu : w.ownsRow lo 33 64 u z.ss.length (flat z.ss) := hr.each _ (List.mem_of_getElem? hp)
  obtain ⟨b, cu, rfl⟩ := own_slice hu
  obtain ⟨-, q1, q2⟩ := ownK_cap hu
  unfold maxLen at q2
  have HS : Hid (Trio7 27 27 33 w (d7A d (.slice (some ⟨g, 0, none⟩) l.length cap)) d7Z (bA (zeros 64)) (((w.alloc (Obj.cells (d7A d (.slice (some ⟨g, 0, none⟩) l.length cap)) 27)).alloc (Obj.cells #[.slice none 0 0, .int .i64 0, .int .i64 0, .int .i64 0, .bool false] 27)).alloc (Obj.cells (bA (zeros 64)) 33))) := Lib.hid Trio7.start
  have hz64 := zero_s64
  have HR := Lib.hid hr
  have HU := Lib.hid hu
  have Hlo := Lib.hid hlo
  have Hn := Lib.hid hn
  have Hk := Lib.hid hk
  have Hp := Lib.hid hp
  have H1 := Lib.hid h1
  have HD := Lib.hid hD
  clear hr hu hlo hn hp h1 hD
  go_enter Try.func30, Try.ntmps30
  go_upto_region 1 with fail
  generalize (((w.alloc (Obj.cells (d7A d (.slice (some ⟨g, 0, none⟩) l.length cap)) 27)).alloc (Obj.cells #[.slice none 0 0, .int .i64 0, .int .i64 0, .int .i64 0, .bool false] 27)).alloc (Obj.cells (bA (zeros 64)) 33)) = w0 at *
  go_wp2_with (first | (refine wpl_load rfl _ rfl (w.heap.size) rfl _ _ _ (HS.out.x) Try.underlying27 rfl Try.info7D ?_; go_frame))
  refine (b7 d (some ⟨g, 0, none⟩) l.length cap (k : Int) _ Hn.out hl).mono ?_
  rintro e w1 ⟨rfl, hb⟩
  rw [H1.out, HD.out]
  have HS1 := Lib.hid (HS.out.below hb)
  clear hb
  go_upto_region 2 with (first | (refine wpl_store rfl _ _ rfl (w.heap.size) (d7A { d with n := d.n + 1 } (.slice (some ⟨g, 0, none⟩) l.length cap)) rfl rfl _ _ HS1.out.x Try.info7D rfl (d7A_one _ _ _ _) ?_; intro w2 hX hK; have HS2 := Lib.hid (HS1.out.newx hX hK); clear hX hK; go_frame))
  have HR2 := Lib.hid (HR.out.below HS2.out.b)
  have c0 := (HS2.out.x.cell 0).trans (show (d7A { d with n := d.n + 1 } (.slice (some ⟨g, 0, none⟩) l.length cap))[0]? = some (.slice (some ⟨g, 0, none⟩) l.length cap) from rfl)
  have HC := Lib.hid (row_range HR2.out.own rfl k _ Hp.out)
  go_upto_region 5 with (first | (refine wpl_load_z (by rfl) _ _ rfl g (k * 4) rfl (z, .slice b z.ss.length cu) _ HC.out Try.underlying87 rfl Try.info7Z ?_; go_frame) | (refine wpl_store_new rfl _ _ rfl (z7A z (.slice b z.ss.length cu)) w2 87 z7Z rfl rfl rfl Try.info7Z rfl (z7A_one _ _ _ _) ?_; go_frame))
  clear c0
  have HY := Lib.hid (Blk.new w2 87 (z7A z (.slice b z.ss.length cu)))
  have HB := below_alloc w2 (Obj.cells (z7A z (.slice b z.ss.length cu)) 87)
  have HS3 := Lib.hid (HS2.out.below HB)
  have HU3 := Lib.hid (ownK_below (ownK_below HU.out HS2.out.b) HB)
  have Hgy := Lib.hid HS2.out.g.lt
  clear HB HS HS1 HR2 HC HR
  generalize w2.alloc (Obj.cells (z7A z (.slice b z.ss.length cu)) 87) = w3 at *
  generalize w2.heap.size = Y at *
  have c0 : w3.cell? ⟨Y, 0, none⟩ = some (.slice b z.ss.length cu) := (HY.out.cell 0).trans rfl
  have c2 : w3.cell? ⟨Y, 2, none⟩ = some (.int .i64 z.state) := (HY.out.cell 2).trans rfl
  have h2' : (z.state == 4) = false := by simpa using h2
  clear h2
  go_wp2_with (first | (refine wpl_load rfl _ rfl (w.heap.size) rfl _ _ _ (HS3.out.x) Try.underlying27 rfl Try.info7D ?_; go_frame) | (refine wpl_store rfl _ _ rfl (w.heap.size + 1) (d7A { d with n := d.n + 1 } (.slice (some ⟨g, 0, none⟩) l.length cap)) rfl rfl _ _ HS3.out.y Try.info7D rfl (d7A_one _ _ _ _) ?_; intro w8 hX hK; have HSy := Lib.hid (HS3.out.newy hX hK); clear hX hK; go_frame) | (refine wpl_store rfl _ _ rfl (w.heap.size + 2) (bA (zeros 64)) rfl rfl _ _ HSy.out.g (info_64 (zeros_length 64)) rfl (bA_one _) ?_; intro w9 hSg hKg; have HF := Lib.hid (HSy.out.out hSg hKg); clear hSg hKg; go_frame))
  exact bodyPost_ret (v := .tuple #[.agg (d7A { d with n := d.n + 1 } (.slice (some ⟨g, 0, none⟩) l.length cap)), .agg (bA (zeros 64)), .int .i64 (31)]) (results_cell2_slot Try.results30 _ _ (w.heap.size + 1) (w.heap.size + 2) 27 33 _ _ _ _ _ rfl rfl rfl HF.out.y HF.out.g Try.underlying27 rfl Try.info7D Try.underlying33 rfl (info_64 (zeros_length 64))) rfl ⟨rfl, HF.out.b⟩
set_option maxRecDepth 100000 in
set_option maxHeartbeats 4000000 in
theorem rd7_big {lo : Nat} {w : World} {v u : Value} {l : List (R7z × Value)} {k : Nat} {z : R7z} (d : R7d) (off : Int) (hn : 0 ≤ d.n ∧ d.n ≤ 1000000) (hl : l.length ≤ 1000) (hz1000 : z.ss.length ≤ 1000) (hr : Row7 lo w v l) (hlo : lo ≤ w.heap.size) (hp : l[k]? = some (z, u)) (h1 : b7E d l.length (k : Int) = 0) (h2 : z.state ≠ 4) (h3 : 0 ≤ off) (h4 : (z.ss.length : Int) ≤ off) :
    Calls Try.prog 30 #[.agg (d7A d v), .int .i64 (k : Nat), .int .i64 off] w (rd7P w { d with n := d.n + 1 } v (zeros 64) 31) := by
  obtain ⟨a, cap, rfl⟩ := own_slice hr.own
  obtain ⟨-, k1, k2⟩ := ownK_cap hr.own
  unfold maxLen at k2
  have hk : k < l.length := (List.getElem?_eq_some_iff.1 hp).1
  have hD : b7R d l.length (k : Int) = { d with n := d.n + 1 } := by unfold b7R; rw [if_pos h1]
  obtain ⟨g, rfl, _, _⟩ := ownK_form hr.own (by omega)
  have hu : w.ownsRow lo 33 64 u z.ss.length (flat z.ss) := hr.each _ (List.mem_of_getElem? hp)
  obtain ⟨b, cu, rfl⟩ := own_slice hu
  obtain ⟨-, q1, q2⟩ := ownK_cap hu
  unfold maxLen at q2
  have HS : Hid (Trio7 27 27 33 w (d7A d (.slice (some ⟨g, 0, none⟩) l.length cap)) d7Z (bA (zeros 64)) (((w.alloc (Obj.cells (d7A d (.slice (some ⟨g, 0, none⟩) l.length cap)) 27)).alloc (Obj.cells #[.slice none 0 0, .int .i64 0, .int .i64 0, .int .i64 0, .bool false] 27)).alloc (Obj.cells (bA (zeros 64)) 33))) := Lib.hid Trio7.start
  have hz64 := zero_s64
  have HR := Lib.hid hr
  have HU := Lib.hid hu
  have Hlo := Lib.hid hlo
  have Hn := Lib.hid hn
  have Hk := Lib.hid hk
  have Hp := Lib.hid hp
  have H1 := Lib.hid h1
  have HD := Lib.hid hD
  clear hr hu hlo hn hp h1 hD
  go_enter Try.func30, Try.ntmps30
  go_upto_region 1 with fail
  generalize (((w.alloc (Obj.cells (d7A d (.slice (some ⟨g, 0, none⟩) l.length cap)) 27)).alloc (Obj.cells #[.slice none 0 0, .int .i64 0, .int .i64 0, .int .i64 0, .bool false] 27)).alloc (Obj.cells (bA (zeros 64)) 33)) = w0 at *
  go_wp2_with (first | (refine wpl_load rfl _ rfl (w.heap.size) rfl _ _ _ (HS.out.x) Try.underlying27 rfl Try.info7D ?_; go_frame))
  refine (b7 d (some ⟨g, 0, none⟩) l.length cap (k : Int) _ Hn.out hl).mono ?_
  rintro e w1 ⟨rfl, hb⟩
  rw [H1.out, HD.out]
  have HS1 := Lib.hid (HS.out.below hb)
  clear hb
  go_upto_region 2 with (first | (refine wpl_store rfl _ _ rfl (w.heap.size) (d7A { d with n := d.n + 1 } (.slice (some ⟨g, 0, none⟩) l.length cap)) rfl rfl _ _ HS1.out.x Try.info7D rfl (d7A_one _ _ _ _) ?_; intro w2 hX hK; have HS2 := Lib.hid (HS1.out.newx hX hK); clear hX hK; go_frame))
  have HR2 := Lib.hid (HR.out.below HS2.out.b)
  have c0 := (HS2.out.x.cell 0).trans (show (d7A { d with n := d.n + 1 } (.slice (some ⟨g, 0, none⟩) l.length cap))[0]? = some (.slice (some ⟨g, 0, none⟩) l.length cap) from rfl)
  have HC := Lib.hid (row_range HR2.out.own rfl k _ Hp.out)
  go_upto_region 5 with (first | (refine wpl_load_z (by rfl) _ _ rfl g (k * 4) rfl (z, .slice b z.ss.length cu) _ HC.out Try.underlying87 rfl Try.info7Z ?_; go_frame) | (refine wpl_store_new rfl _ _ rfl (z7A z (.slice b z.ss.length cu)) w2 87 z7Z rfl rfl rfl Try.info7Z rfl (z7A_one _ _ _ _) ?_; go_frame))
  clear c0
  have HY := Lib.hid (Blk.new w2 87 (z7A z (.slice b z.ss.length cu)))
  have HB := below_alloc w2 (Obj.cells (z7A z (.slice b z.ss.length cu)) 87)
  have HS3 := Lib.hid (HS2.out.below HB)
  have HU3 := Lib.hid (ownK_below (ownK_below HU.out HS2.out.b) HB)
  have Hgy := Lib.hid HS2.out.g.lt
  clear HB HS HS1 HR2 HC HR
  generalize w2.alloc (Obj.cells (z7A z (.slice b z.ss.length cu)) 87) = w3 at *
  generalize w2.heap.size = Y at *
  have c0 : w3.cell? ⟨Y, 0, none⟩ = some (.slice b z.ss.length cu) := (HY.out.cell 0).trans rfl
  have c2 : w3.cell? ⟨Y, 2, none⟩ = some (.int .i64 z.state) := (HY.out.cell 2).trans rfl
  have h2' : (z.state == 4) = false := by simpa using h2
  clear h2
  go_wp2_with (first | (refine wpl_load rfl _ rfl (w.heap.size) rfl _ _ _ (HS3.out.x) Try.underlying27 rfl Try.info7D ?_; go_frame) | (refine wpl_store rfl _ _ rfl (w.heap.size + 1) (d7A { d with n := d.n + 1 } (.slice (some ⟨g, 0, none⟩) l.length cap)) rfl rfl _ _ HS3.out.y Try.info7D rfl (d7A_one _ _ _ _) ?_; intro w8 hX hK; have HSy := Lib.hid (HS3.out.newy hX hK); clear hX hK; go_frame) | (refine wpl_store rfl _ _ rfl (w.heap.size + 2) (bA (zeros 64)) rfl rfl _ _ HSy.out.g (info_64 (zeros_length 64)) rfl (bA_one _) ?_; intro w9 hSg hKg; have HF := Lib.hid (HSy.out.out hSg hKg); clear hSg hKg; go_frame))
  exact bodyPost_ret (v := .tuple #[.agg (d7A { d with n := d.n + 1 } (.slice (some ⟨g, 0, none⟩) l.length cap)), .agg (bA (zeros 64)), .int .i64 (31)]) (results_cell2_slot Try.results30 _ _ (w.heap.size + 1) (w.heap.size + 2) 27 33 _ _ _ _ _ rfl rfl rfl HF.out.y HF.out.g Try.underlying27 rfl Try.info7D Try.underlying33 rfl (info_64 (zeros_length 64))) rfl ⟨rfl, HF.out.b⟩
set_option maxRecDepth 100000 in
set_option maxHeartbeats 4000000 in
theorem rd7_ok {lo : Nat} {w : World} {v u : Value} {l : List (R7z × Value)} {k : Nat} {z : R7z} (d : R7d) (off : Int) (hn : 0 ≤ d.n ∧ d.n ≤ 1000000) (hl : l.length ≤ 1000) (hz1000 : z.ss.length ≤ 1000) (hr : Row7 lo w v l) (hlo : lo ≤ w.heap.size) (hp : l[k]? = some (z, u)) (h1 : b7E d l.length (k : Int) = 0) {j : Nat} (h2 : z.state ≠ 4) (hoff : off = (j : Int)) (hj : j < z.ss.length) (h64 : ∀ t ∈ z.ss, t.length = 64) :
    Calls Try.prog 30 #[.agg (d7A d v), .int .i64 (k : Nat), .int .i64 off] w (rd7P w { d with n := d.n + 1 } v (z.ss.getD j []) 0) := by
  obtain ⟨a, cap, rfl⟩ := own_slice hr.own
  obtain ⟨-, k1, k2⟩ := ownK_cap hr.own
  unfold maxLen at k2
  have hk : k < l.length := (List.getElem?_eq_some_iff.1 hp).1
  have hD : b7R d l.length (k : Int) = { d with n := d.n + 1 } := by unfold b7R; rw [if_pos h1]
  obtain ⟨g, rfl, _, _⟩ := ownK_form hr.own (by omega)
  have hu : w.ownsRow lo 33 64 u z.ss.length (flat z.ss) := hr.each _ (List.mem_of_getElem? hp)
  obtain ⟨b, cu, rfl⟩ := own_slice hu
  obtain ⟨-, q1, q2⟩ := ownK_cap hu
  unfold maxLen at q2
  have HS : Hid (Trio7 27 27 33 w (d7A d (.slice (some ⟨g, 0, none⟩) l.length cap)) d7Z (bA (zeros 64)) (((w.alloc (Obj.cells (d7A d (.slice (some ⟨g, 0, none⟩) l.length cap)) 27)).alloc (Obj.cells #[.slice none 0 0, .int .i64 0, .int .i64 0, .int .i64 0, .bool false] 27)).alloc (Obj.cells (bA (zeros 64)) 33))) := Lib.hid Trio7.start
  have hz64 := zero_s64
  have HR := Lib.hid hr
  have HU := Lib.hid hu
  have Hlo := Lib.hid hlo
  have Hn := Lib.hid hn
  have Hk := Lib.hid hk
  have Hp := Lib.hid hp
  have H1 := Lib.hid h1
  have HD := Lib.hid hD
  clear hr hu hlo hn hp h1 hD
  go_enter Try.func30, Try.ntmps30
  go_upto_region 1 with fail
  generalize (((w.alloc (Obj.cells (d7A d (.slice (some ⟨g, 0, none⟩) l.length cap)) 27)).alloc (Obj.cells #[.slice none 0 0, .int .i64 0, .int .i64 0, .int .i64 0, .bool false] 27)).alloc (Obj.cells (bA (zeros 64)) 33)) = w0 at *
  go_wp2_with (first | (refine wpl_load rfl _ rfl (w.heap.size) rfl _ _ _ (HS.out.x) Try.underlying27 rfl Try.info7D ?_; go_frame))
  refine (b7 d (some ⟨g, 0, none⟩) l.length cap (k : Int) _ Hn.out hl).mono ?_
  rintro e w1 ⟨rfl, hb⟩
  rw [H1.out, HD.out]
  have HS1 := Lib.hid (HS.out.below hb)
  clear hb
  go_upto_region 2 with (first | (refine wpl_store rfl _ _ rfl (w.heap.size) (d7A { d with n := d.n + 1 } (.slice (some ⟨g, 0, none⟩) l.length cap)) rfl rfl _ _ HS1.out.x Try.info7D rfl (d7A_one _ _ _ _) ?_; intro w2 hX hK; have HS2 := Lib.hid (HS1.out.newx hX hK); clear hX hK; go_frame))
  have HR2 := Lib.hid (HR.out.below HS2.out.b)
  have c0 := (HS2.out.x.cell 0).trans (show (d7A { d with n := d.n + 1 } (.slice (some ⟨g, 0, none⟩) l.length cap))[0]? = some (.slice (some ⟨g, 0, none⟩) l.length cap) from rfl)
  have HC := Lib.hid (row_range HR2.out.own rfl k _ Hp.out)
  go_upto_region 5 with (first | (refine wpl_load_z (by rfl) _ _ rfl g (k * 4) rfl (z, .slice b z.ss.length cu) _ HC.out Try.underlying87 rfl Try.info7Z ?_; go_frame) | (refine wpl_store_new rfl _ _ rfl (z7A z (.slice b z.ss.length cu)) w2 87 z7Z rfl rfl rfl Try.info7Z rfl (z7A_one _ _ _ _) ?_; go_frame))
  clear c0
  have HY := Lib.hid (Blk.new w2 87 (z7A z (.slice b z.ss.length cu)))
  have HB := below_alloc w2 (Obj.cells (z7A z (.slice b z.ss.length cu)) 87)
  have HS3 := Lib.hid (HS2.out.below HB)
  have HU3 := Lib.hid (ownK_below (ownK_below HU.out HS2.out.b) HB)
  have Hgy := Lib.hid HS2.out.g.lt
  clear HB HS HS1 HR2 HC HR
  generalize w2.alloc (Obj.cells (z7A z (.slice b z.ss.length cu)) 87) = w3 at *
  generalize w2.heap.size = Y at *
  have c0 : w3.cell? ⟨Y, 0, none⟩ = some (.slice b z.ss.length cu) := (HY.out.cell 0).trans rfl
  subst hoff
  have H64 := Lib.hid h64
  clear h64
  have c2 : w3.cell? ⟨Y, 2, none⟩ = some (.int .i64 z.state) := (HY.out.cell 2).trans rfl
  have h2' : (z.state == 4) = false := by simpa using h2
  clear h2
  obtain ⟨gz, rfl, _, _⟩ := ownK_form HU.out (by omega)
  have h6 := getD_64 H64.out j hj
  have hrg := own_range7 HU3.out rfl H64.out j hj
  generalize z.ss.getD j [] = R at *
  have H6 := Lib.hid h6
  have HRg := Lib.hid hrg
  have Hj := Lib.hid hj
  clear h6 hrg
  go_upto_region 9 with fail
  clear c0 c2 h2'
  have HX := Lib.hid HS3.out.x
  refine wp_region_held (S := fun w' => Kept (fun i => i = w.heap.size + 1 ∨ i = w.heap.size + 2) w3 w') (by kernel_rfl) ?_
  change wpAnyH _ _ _ _ _ _ _ _ (World.drew _)
  have hS : Kept (fun i => i = w.heap.size + 1 ∨ i = w.heap.size + 2) w3 w3.drew := (Kept.refl _ _).drew
  refine takeH hS (i := 0) (d := 43) (v := .agg (d7A { d with n := d.n + 1 } (.slice (some ⟨g, 0, none⟩) l.length cap))) rfl rfl (by kernel_rfl) (by kernel_rfl) (by kernel_rfl) (fun _ _ _ h => h) (Or.inl ⟨by kernel_rfl, fun w' hw' => by exact exec_load _ rfl (w.heap.size) rfl (HX.out.kept hw' (by omega)) Try.underlying27 rfl Try.info7D⟩) ?_
  refine takeH hS (i := 1) (d := 44) (v := .pointer (some ⟨Y, 0, none⟩)) rfl rfl (by kernel_rfl) (by kernel_rfl) (by kernel_rfl) (fun _ _ _ h => h) (Or.inl ⟨by kernel_rfl, fun w' hw' => by kernel_rfl⟩) ?_
  refine takeH hS (i := 2) (d := 45) (v := .slice (some ⟨gz, 0, none⟩) z.ss.length cu) rfl rfl (by kernel_rfl) (by kernel_rfl) (by kernel_rfl) (fun _ _ _ h => h) (Or.inl ⟨by kernel_rfl, fun w' hw' => by exact exec_cellv _ rfl ⟨Y, 0, none⟩ rfl (.slice (some ⟨gz, 0, none⟩) z.ss.length cu) Try.underlying85 rfl (((HY.out.kept hw' (by have := Hgy.out; omega)).cell 0).trans rfl)⟩) ?_
  refine takeH hS (i := 3) (d := 46) (v := .int .i64 (j : Nat)) rfl rfl (by kernel_rfl) (by kernel_rfl) (by kernel_rfl) (fun _ _ _ h => h) (Or.inl ⟨by kernel_rfl, fun w' hw' => by kernel_rfl⟩) ?_
  try go_frame
  refine takeH hS (i := 4) (d := 47) (v := .pointer (some ⟨gz, j * 64, none⟩)) rfl rfl (by kernel_rfl) (by kernel_rfl) (by kernel_rfl) (fun _ _ _ h => h) (Or.inl ⟨by kernel_rfl, fun w' hw' => by exact exec_indexK el7S _ _ rfl gz z.ss.length cu j rfl rfl Hj.out⟩) ?_
  refine takeH hS (i := 5) (d := 48) (v := .agg (bA R)) rfl rfl (by kernel_rfl) (by kernel_rfl) (by kernel_rfl) (fun _ _ _ h => h) (Or.inl ⟨by kernel_rfl, fun w' hw' => by exact exec_load_b _ _ rfl gz (j * 64) rfl R _ (fun m u hm => (World.cell?_of_block (hw'.block gz (own_lt HU3.out rfl) (fun e => by have := own_lt HU.out rfl; omega))).trans (HRg.out m u hm)) Try.underlying33 rfl (by rw [bvals_length, H6.out]; exact Try.info7S)⟩) ?_
  try go_frame
  refine nextH (i := 6) rfl (by kernel_rfl) (by kernel_rfl) (fun K' hK => ?_)
  refine wpo_store _ _ rfl (w.heap.size + 1) (d7A { d with n := d.n + 1 } (.slice (some ⟨g, 0, none⟩) l.length cap)) rfl rfl _ _ HS3.out.y (Try.info7D) rfl (d7A_one _ _ _ _) ?_
  intro w8 hX hq
  have hS1 : Kept (fun i => i = w.heap.size + 1 ∨ i = w.heap.size + 2) w3 w8 := hS.trans (hq.mono (fun _ _ e => .inl e))
  have HSy := Lib.hid (HS3.out.newy hX ((Kept.refl _ _).drew.trans hq))
  refine hK.out _ _ ⟨hS1, ?_⟩
  clear hK K' hq hS hX
  try go_frame
  refine nextH (i := 7) rfl (by kernel_rfl) (by kernel_rfl) (fun K' hK => ?_)
  refine wpo_store _ _ rfl (w.heap.size + 2) (bA R) rfl rfl _ _ HSy.out.g (info_64 H6.out) (by rw [bA_size, bA_size, zeros_length, H6.out]) (bA_one _) ?_
  intro w9 hX hq
  have hS2 : Kept (fun i => i = w.heap.size + 1 ∨ i = w.heap.size + 2) w3 w9 := hS1.trans (hq.mono (fun _ _ e => .inr e))
  have HF := Lib.hid (HSy.out.out hX hq)
  refine hK.out _ _ ⟨hS2, ?_⟩
  clear hK K' hq hS1 hX
  try go_frame
  refine takeH hS2 (i := 8) (d := 8) (v := .int .i64 0) rfl rfl (by kernel_rfl) (by kernel_rfl) (by kernel_rfl) (fun _ _ _ h => h) (Or.inl ⟨by kernel_rfl, fun w' hw' => by kernel_rfl⟩) ?_
  refine wpAnyH_done (by kernel_rfl) ?_ _
  try go_frame
  go_wp2_with fail
  exact bodyPost_ret (v := .tuple #[.agg (d7A { d with n := d.n + 1 } (.slice (some ⟨g, 0, none⟩) l.length cap)), .agg (bA R), .int .i64 (0)]) (results_cell2_slot Try.results30 _ _ (w.heap.size + 1) (w.heap.size + 2) 27 33 _ _ _ _ _ rfl rfl rfl HF.out.y HF.out.g Try.underlying27 rfl Try.info7D Try.underlying33 rfl (info_64 H6.out)) rfl ⟨rfl, HF.out.b⟩
theorem rd7 {lo : Nat} {w : World} {v : Value} {l : List (R7z × Value)} (d : R7d) (i off : Int) (hn : 0 ≤ d.n ∧ d.n ≤ 1000000) (hl : l.length ≤ 1000) (hz : ∀ p ∈ l, p.1.ss.length ≤ 1000 ∧ ∀ t ∈ p.1.ss, t.length = 64) (hr : Row7 lo w v l) (hlo : lo ≤ w.heap.size) :
    Calls Try.prog 30 #[.agg (d7A d v), .int .i64 i, .int .i64 off] w fun e w' => e = .returned (.tuple #[.agg (d7A (b7R d l.length i) v), .agg (bA (rd7V d l i off)), .int .i64 (rd7E d l i off)]) ∧ Below w.heap.size w w' := by
  by_cases h1 : b7E d l.length i = 0
  · obtain ⟨i0, i1⟩ := b7E_in h1
    obtain ⟨k, rfl⟩ := Int.eq_ofNat_of_zero_le i0
    have hk : k < l.length := by omega
    obtain ⟨⟨z, u⟩, hp⟩ : ∃ p, l[k]? = some p := ⟨_, List.getElem?_eq_getElem hk⟩
    obtain ⟨z1, z2⟩ : z.ss.length ≤ 1000 ∧ ∀ t ∈ z.ss, t.length = 64 := hz _ (List.mem_of_getElem? hp)
    have hzz : zat l (k : Int) = z := by unfold zat; rw [Int.toNat_natCast, List.getD_eq_getElem?_getD, hp]; rfl
    have hD : b7R d l.length (k : Int) = { d with n := d.n + 1 } := by unfold b7R; rw [if_pos h1]
    have hE : rd7E d l (k : Int) off = rd7Z z off := by unfold rd7E; rw [if_neg (fun h => h h1), hzz]
    unfold rd7V
    rw [hE, hD, hzz]
    by_cases h2 : z.state = 4
    · have hq : rd7Z z off = 32 := by unfold rd7Z; rw [if_pos h2]
      rw [hq, if_neg (by decide)]
      exact rd7_off d off hn hl z1 hr hlo hp h1 h2
    · by_cases h3 : off < 0
      · have hq : rd7Z z off = 31 := by unfold rd7Z; rw [if_neg h2, if_pos (.inl h3)]
        rw [hq, if_neg (by decide)]
        exact rd7_neg d off hn hl z1 hr hlo hp h1 h2 h3
      · by_cases h4 : (z.ss.length : Int) ≤ off
        · have hq : rd7Z z off = 31 := by unfold rd7Z; rw [if_neg h2, if_pos (.inr h4)]
          rw [hq, if_neg (by decide)]
          exact rd7_big d off hn hl z1 hr hlo hp h1 h2 (by omega) h4
        · have hq : rd7Z z off = 0 := by unfold rd7Z; rw [if_neg h2, if_neg (by omega)]
          rw [hq, if_pos rfl]
          obtain ⟨j, rfl⟩ := Int.eq_ofNat_of_zero_le (show 0 ≤ off by omega)
          exact rd7_ok d _ hn hl z1 hr hlo hp h1 h2 rfl (by omega) z2
  · have hD : b7R d l.length i = d := by unfold b7R; rw [if_neg h1]
    have hE : rd7E d l i off = b7E d l.length i := by unfold rd7E; rw [if_pos h1]
    unfold rd7V
    rw [hE, hD, if_neg h1]
    exact rd7_no d i off hn hl hr h1
end Go.Proofs.Ytajkajgnjcnolaa

