import Derived.Test.YtlngdndamgopeaaMg20
import Derived.Test.YtlngdndamgopeaaMg08
/-
  Layer 7 (zdev): a step of both.
-/
namespace Go.Proofs.Ytlngdndamgopeaa
open Go.RowKit
set_option linter.unusedVariables false
set_option linter.unnecessarySimpa false
set_option linter.unusedSimpArgs false


/-- A step as it reads. -/
structure Op7 where
  k : Int
  z : Int
  off : Int
  s : List Nat
  ka : Option Addr
  kl : Nat
  kc : Nat
  ks : List Int
  deriving Inhabited
def opL (o : Op7) : List Value := [.int .i64 o.k, .int .i64 o.z, .int .i64 o.off] ++ bvals o.s ++ [.slice o.ka o.kl o.kc]
def opA (o : Op7) : Array Value := (opL o).toArray
theorem opA_0 (o : Op7) : (opA o)[0]? = some (.int .i64 o.k) := rfl
theorem opA_1 (o : Op7) : (opA o)[1]? = some (.int .i64 o.z) := rfl
theorem opA_2 (o : Op7) : (opA o)[2]? = some (.int .i64 o.off) := rfl
theorem opA_67 (o : Op7) (h : o.s.length = 64) : (opA o)[67]? = some (.slice o.ka o.kl o.kc) := by
  show (opL o).toArray[67]? = _
  rw [List.getElem?_toArray]
  unfold opL
  rw [List.getElem?_append_right (by simp [bvals_length, h])]
  simp [bvals_length, h]
theorem opA_s (o : Op7) (j : Nat) (u : Value) (h : (bvals o.s)[j]? = some u) : (opA o)[3 + j]? = some u := by
  show (opL o).toArray[3 + j]? = _
  rw [List.getElem?_toArray]
  unfold opL
  have hj : j < (bvals o.s).length := (List.getElem?_eq_some_iff.1 h).1
  rw [List.getElem?_append_left (by simp; omega), List.getElem?_append_right (by simp)]
  simpa using h
theorem op_range {w : World} {g : Nat} {o : Op7} (h : Blk w g 37 (opA o)) : w.rangeAt g 3 (bvals o.s) := fun j u hu => (h.cell (3 + j)).trans (opA_s o j u hu)
theorem Try.infoOp7 : (Try.prog.info? 37).map (·.size) = some 68 := by kernel_rfl
/-- What may be of a step; w: the world of the arguments. -/
structure Op7Ok (w : World) (o : Op7) : Prop where
  len : o.s.length = 64
  lt : ∀ b ∈ o.s, b < 256
  keep : RowZ w o.ka o.kl o.kc o.ks
  wz : (Lit.int .i64 o.z).wf = true
  wo : (Lit.int .i64 o.off).wf = true
/-- What a step tells and leaves. -/
def stSp (d : DvR) (zs : List ZsR) (o : Op7) : OutR :=
  if o.k = 1 then apSp d zs o.z o.s else if o.k = 2 then rdSp d zs o.z o.off else if o.k = 3 then rsSp d zs o.z else if o.k = 4 then fnSp d zs o.z else if o.k = 5 then flSp d zs else if o.k = 6 then crSp d zs else if o.k = 7 then rvSp d zs o.ks else if o.k = 8 then faSp d zs o.z o.off else if o.k = 9 then spSp d zs o.z o.off o.s else ⟨0, 0, d, zs⟩
def STo7 (lo : Nat) (w : World) (D : Nat) (vz : Value) (l : List ZcR) (R : OutR) (e : Ending) (w' : World) : Prop :=
  ∃ v', e = .returned (.tuple #[.agg (d7A (dd7 R.d) v'), .bool true]) ∧ Doc lo w' v' R.zs ∧ DvTo lo w D vz l R.d R.zs w'
theorem two_new (w : World) (c c' : Array Value) : Blk ((w.alloc (Obj.cells c 31)).alloc (Obj.cells c' 33)) w.heap.size 31 c ∧ Blk ((w.alloc (Obj.cells c 31)).alloc (Obj.cells c' 33)) (w.heap.size + 1) 33 c' ∧ Below w.heap.size w ((w.alloc (Obj.cells c 31)).alloc (Obj.cells c' 33)) := by
  have h1 := Blk.new (w.alloc (Obj.cells c 31)) 33 c'
  rw [World.size_alloc] at h1
  exact ⟨(Blk.new w 31 c).alloc _, h1, bthen (below_alloc w _) (below_alloc _ _)⟩
/-- Behind the command: the three blocks of the step, the device, the document's zones. -/
structure Aft (lo D : Nat) (w0 : World) (vz : Value) (l : List ZcR) (R : OutR) (c c' q : Array Value) (v7 : Value) (zs7 : List ZsR) (w : World) : Prop where
  x : Blk w w0.heap.size 31 c
  y : Blk w (w0.heap.size + 1) 37 c'
  g : Blk w (w0.heap.size + 2) 31 q
  dv : DvTo lo w0 D vz l R.d R.zs w
  doc : Doc lo w v7 zs7
section
variable {lo D : Nat} {w0 w w' : World} {vz : Value} {l : List ZcR} {d : DvR} {R : OutR} {c c' q : Array Value} {v7 v8 : Value} {zs7 zs8 : List ZsR}
theorem Aft.below (h : Aft lo D w0 vz l R c c' q v7 zs7 w) (hb : Below w.heap.size w w') : Aft lo D w0 vz l R c c' q v7 zs7 w' :=
  ⟨h.x.below hb h.x.lt, h.y.below hb h.y.lt, h.g.below hb h.g.lt, h.dv.below hb, h.doc.below hb⟩
theorem Aft.told (h : Aft lo D w0 vz l R c c' q v7 zs7 w) (hb : Below w.heap.size w w') (hd : Doc lo w' v8 zs8) : Aft lo D w0 vz l R c c' q v8 zs8 w' :=
  ⟨h.x.below hb h.x.lt, h.y.below hb h.y.lt, h.g.below hb h.g.lt, h.dv.below hb, hd⟩
theorem DvTo.keptB {d' : DvR} {zs' : List ZsR} {U : TypeId} {cs : Array Value} {g : Nat} (h : DvTo lo w0 D vz l d' zs' w) (hg : Blk w g U cs) (hl : w0.heap.size ≤ g) (h1 : U ≠ 61) (h2 : U ≠ 62) (h3 : U ≠ 88) (h4 : U ≠ 34) (hk : Kept (· = g) w w') : DvTo lo w0 D vz l d' zs' w' := by
  obtain ⟨l', k1, k2, k3, k4⟩ := h
  exact ⟨l', k1.kept hk (fun i hi e => k1.notblk hg h1 h2 h3 h4 (e ▸ hi)), k2, k3.andThen hk (fun _ _ h => h) (fun i hi e => by omega), k4⟩
theorem Doc.keptB {U : TypeId} {cs : Array Value} {g : Nat} (h : Doc lo w v7 zs7) (hg : Blk w g U cs) (h1 : 67 ≠ U) (h2 : 33 ≠ U) (hk : Kept (· = g) w w') : Doc lo w' v7 zs7 := by
  obtain ⟨l7, r, m⟩ := h
  exact ⟨l7, r.keptB hg h1 h2 hk, m⟩
theorem Aft.out {q' : Array Value} (h : Aft lo D w0 vz l R c c' q v7 zs7 w) (hg : Blk w' (w0.heap.size + 2) 31 q') (hk : Kept (· = w0.heap.size + 2) w w') : Aft lo D w0 vz l R c c' q' v7 zs7 w' :=
  ⟨h.x.kept hk (by simp), h.y.kept hk (by simp), hg, h.dv.keptB h.g (by omega) (by decide) (by decide) (by decide) (by decide) hk, h.doc.keptB h.g (by decide) (by decide) hk⟩
theorem Aft.far {cs : Array Value} {U : TypeId} {g : Nat} (h : Aft lo D w0 vz l R c c' q v7 zs7 w) (hg : Blk w g U cs) (hl : w0.heap.size + 2 < g) (h1 : U ≠ 61) (h2 : U ≠ 62) (h3 : U ≠ 88) (h4 : U ≠ 34) (h5 : 67 ≠ U) (h6 : 33 ≠ U) (hk : Kept (· = g) w w') : Aft lo D w0 vz l R c c' q v7 zs7 w' :=
  ⟨h.x.kept hk (by omega), h.y.kept hk (by omega), h.g.kept hk (by omega), h.dv.keptB hg (by omega) h1 h2 h3 h4 hk, h.doc.keptB hg h5 h6 hk⟩
/-- The command is carried out. -/
theorem Trio7.cmd {w2 : World} (h : Trio7 31 37 31 w0 c c' q w) (hA : DvAt lo w D vz d l) (hd : Doc lo w v7 zs7) (hT : DvTo lo w D vz l R.d R.zs w2) : Aft lo D w0 vz l R c c' q v7 zs7 w2 := by
  refine ⟨hT.blk hA h.x (by decide) (by decide) (by decide) (by decide), hT.blk hA h.y (by decide) (by decide) (by decide) (by decide), hT.blk hA h.g (by decide) (by decide) (by decide) (by decide), DvTo.after h.b hT, ?_⟩
  obtain ⟨l7, r, m⟩ := hd
  exact ⟨l7, hT.row hA r, m⟩
end
section
variable {P : Program} {w : World} {o : Oper} {a : Act}
theorem exec_eqlS {t : TypeId} {n : Nat} (T : BytesType P t n) (x y : Operand) (rt : TypeId) (ho : o.op = .binOp .eql t x y rt) (xs ys : List Nat) (hx : a.eval x = .agg (bA xs)) (hy : a.eval y = .agg (bA ys)) (hf : xs.length = n) (hg : ys.length = n) (b : Bool) (hb : decide (xs = ys) = b) :
    (execOp a.eval o).run P w = .ok (.value (.bool b)) w := by
  unfold execOp
  simp only [ho, hx, hy, Sem.run_bind, run_eqGuard_agg w .eql t x y (bA xs) (bA ys) T.guard, Result.andThen_ok, run_eql_sector T xs ys hf hg w, Sem.run_pure, hb]
end

end Go.Proofs.Ytlngdndamgopeaa

/-
  Layer 7 (zdev): a step of both: kind 1, x.
-/
namespace Go.Proofs.Ytlngdndamgopeaa
open Go.RowKit
set_option linter.unusedVariables false
set_option linter.unnecessarySimpa false
set_option linter.unusedSimpArgs false


set_option maxRecDepth 100000 in
set_option maxHeartbeats 4000000 in
theorem st7_1 {lo D : Nat} {w wA : World} {vz v7 : Value} {d : DvR} {l : List ZcR} (o : Op7) (ho : Op7Ok wA o) (hbA : Below wA.heap.size wA w) (hloA : wA.heap.size ≤ lo) (h : DvAt lo w D vz d l) (hD : Doc lo w v7 (l.map ZcR.z)) (hn : 0 ≤ d.count ∧ d.count ≤ 1000000) (hl : l.length ≤ 1000) (hk : o.k = 1) :
    Calls Try.prog 12 #[.pointer (some ⟨D, 0, none⟩), .agg (d7A (dd7 d) v7), .agg (opA o)] w (STo7 lo w D vz l (apSp d (l.map ZcR.z) o.z o.s)) := by
  obtain ⟨a7, n7, c7, rfl⟩ : ∃ a n c, v7 = .slice a n c := by
    obtain ⟨l7, r, _⟩ := hD
    obtain ⟨a, c, e⟩ := own_slice r.own
    exact ⟨a, _, c, e⟩
  have HS : Hid (Trio7 31 37 31 w (d7A (dd7 d) (.slice a7 n7 c7)) (opA o) d7Z (((w.alloc (Obj.cells (d7A (dd7 d) (.slice a7 n7 c7)) 31)).alloc (Obj.cells (opA o) 37)).alloc (Obj.cells #[.slice none 0 0, .int .i64 0, .int .i64 0, .int .i64 0, .bool false] 31))) := Lib.hid Trio7.start
  have HA := Lib.hid (h.below HS.out.b)
  have HD := Lib.hid (hD.below HS.out.b)
  have Hsn := Lib.hid (h.sane hl)
  have Hlo := Lib.hid (show lo ≤ w.heap.size by have := h.blk.lt; have := h.le; omega)
  have Ho := Lib.hid ho
  have Hn := Lib.hid hn
  have HbA := Lib.hid hbA
  have HloA := Lib.hid hloA
  have c0 : (((w.alloc (Obj.cells (d7A (dd7 d) (.slice a7 n7 c7)) 31)).alloc (Obj.cells (opA o) 37)).alloc (Obj.cells #[.slice none 0 0, .int .i64 0, .int .i64 0, .int .i64 0, .bool false] 31)).cell? ⟨w.heap.size + 1, 0, none⟩ = some (.int .i64 1) := (HS.out.y.cell 0).trans ((opA_0 o).trans (by rw [hk]))
  clear h hD ho hn hbA hloA
  go_enter Try.func12, Try.ntmps12
  go_upto_region 1 with fail
  generalize (((w.alloc (Obj.cells (d7A (dd7 d) (.slice a7 n7 c7)) 31)).alloc (Obj.cells (opA o) 37)).alloc (Obj.cells #[.slice none 0 0, .int .i64 0, .int .i64 0, .int .i64 0, .bool false] 31)) = w0 at *
  have c1 : w0.cell? ⟨w.heap.size + 1, 1, none⟩ = some (.int .i64 o.z) := (HS.out.y.cell 1).trans (opA_1 o)
  have c2 : w0.cell? ⟨w.heap.size + 1, 2, none⟩ = some (.int .i64 o.off) := (HS.out.y.cell 2).trans (opA_2 o)
  have hl0 : lo ≤ w0.heap.size := by have := HS.out.g.lt; have := Hlo.out; omega
  have Hl0 := Lib.hid hl0
  clear hl0
  clear hk
  go_wp2_with (first | (refine wpl_load_mid (by rfl) 34 _ rfl (w.heap.size + 1) 3 rfl o.s _ (op_range HS.out.y) Try.underlying34 rfl (by rw [bvals_length]; exact (info_sec Ho.out.len).trans (by rw [bA_size])) ?_; go_frame))
  refine (cap7 o.z o.s Ho.out.len Ho.out.lt HA.out Hn.out hl).mono ?_
  rintro e w1 ⟨rfl, hT⟩
  have HN := Lib.hid (HS.out.cmd HA.out HD.out hT)
  clear hT c0 c1 c2
  have c1 : w1.cell? ⟨w.heap.size + 1, 1, none⟩ = some (.int .i64 o.z) := (HN.out.y.cell 1).trans (opA_1 o)
  have c2 : w1.cell? ⟨w.heap.size + 1, 2, none⟩ = some (.int .i64 o.off) := (HN.out.y.cell 2).trans (opA_2 o)
  have hl1 : lo ≤ w1.heap.size := by have := HN.out.g.lt; have := Hlo.out; omega
  go_wp2_with (first | (refine wpl_load rfl _ rfl (w.heap.size) rfl _ _ _ (HN.out.x) Try.underlying31 rfl Try.info7D ?_; go_frame) | (refine wpl_load_mid (by rfl) 34 _ rfl (w.heap.size + 1) 3 rfl o.s _ (op_range HN.out.y) Try.underlying34 rfl (by rw [bvals_length]; exact (info_sec Ho.out.len).trans (by rw [bA_size])) ?_; go_frame))
  refine (gap7 o.z o.s Ho.out.len HN.out.doc Hsn.out Hn.out hl1).mono ?_
  rintro e w2 ⟨v8, rfl, hd8, hb⟩
  obtain ⟨a8, n8, c8, rfl⟩ : ∃ a n c, v8 = .slice a n c := by
    obtain ⟨l8, r, _⟩ := hd8
    obtain ⟨a, c, e⟩ := own_slice r.own
    exact ⟨a, _, c, e⟩
  have HN2 := Lib.hid (HN.out.told hb hd8)
  clear hb hd8 hl1
  go_upto_region 5 with (first | (refine wpl_store_new rfl _ _ rfl (d7A (dd7 (apSp d (l.map ZcR.z) o.z o.s).d) (.slice a8 n8 c8)) w2 31 d7Z rfl rfl rfl Try.info7D rfl (d7A_one _ _ _ _) ?_; go_frame))
  have HY := Lib.hid (Blk.new w2 31 (d7A (dd7 (apSp d (l.map ZcR.z) o.z o.s).d) (.slice a8 n8 c8)))
  have HN3 := Lib.hid (HN2.out.below (below_alloc w2 (Obj.cells (d7A (dd7 (apSp d (l.map ZcR.z) o.z o.s).d) (.slice a8 n8 c8)) 31)))
  generalize w2.alloc (Obj.cells (d7A (dd7 (apSp d (l.map ZcR.z) o.z o.s).d) (.slice a8 n8 c8)) 31) = w3 at *
  go_wp2_with (first | (refine wpl_load rfl _ rfl (w2.heap.size) rfl _ _ _ (HY.out) Try.underlying31 rfl Try.info7D ?_; go_frame) | (refine wpl_store rfl _ _ rfl (w.heap.size + 2) (d7A (dd7 (apSp d (l.map ZcR.z) o.z o.s).d) (.slice a8 n8 c8)) rfl rfl _ _ HN3.out.g Try.info7D rfl (d7A_one _ _ _ _) ?_; intro w9 hSg hKg; have HF := Lib.hid (HN3.out.out hSg hKg); clear hSg hKg; go_frame))
  exact bodyPost_ret (v := .tuple #[.agg (d7A (dd7 (apSp d (l.map ZcR.z) o.z o.s).d) (.slice a8 n8 c8)), .bool true]) (results_cell_slot Try.results12 _ _ (w.heap.size + 2) 31 _ _ _ rfl rfl HF.out.g Try.underlying31 rfl Try.info7D) rfl ⟨_, rfl, HF.out.doc, HF.out.dv⟩

set_option maxRecDepth 100000 in
set_option maxHeartbeats 4000000 in
theorem st7_x {lo D : Nat} {w wA : World} {vz v7 : Value} {d : DvR} {l : List ZcR} (o : Op7) (ho : Op7Ok wA o) (hbA : Below wA.heap.size wA w) (hloA : wA.heap.size ≤ lo) (h : DvAt lo w D vz d l) (hD : Doc lo w v7 (l.map ZcR.z)) (hn : 0 ≤ d.count ∧ d.count ≤ 1000000) (hl : l.length ≤ 1000) (hk : ¬ (o.k = 1 ∨ o.k = 2 ∨ o.k = 3 ∨ o.k = 4 ∨ o.k = 5 ∨ o.k = 6 ∨ o.k = 7 ∨ o.k = 8 ∨ o.k = 9)) :
    Calls Try.prog 12 #[.pointer (some ⟨D, 0, none⟩), .agg (d7A (dd7 d) v7), .agg (opA o)] w (STo7 lo w D vz l (⟨0, 0, d, l.map ZcR.z⟩)) := by
  obtain ⟨a7, n7, c7, rfl⟩ : ∃ a n c, v7 = .slice a n c := by
    obtain ⟨l7, r, _⟩ := hD
    obtain ⟨a, c, e⟩ := own_slice r.own
    exact ⟨a, _, c, e⟩
  have HS : Hid (Trio7 31 37 31 w (d7A (dd7 d) (.slice a7 n7 c7)) (opA o) d7Z (((w.alloc (Obj.cells (d7A (dd7 d) (.slice a7 n7 c7)) 31)).alloc (Obj.cells (opA o) 37)).alloc (Obj.cells #[.slice none 0 0, .int .i64 0, .int .i64 0, .int .i64 0, .bool false] 31))) := Lib.hid Trio7.start
  have HA := Lib.hid (h.below HS.out.b)
  have HD := Lib.hid (hD.below HS.out.b)
  have Hsn := Lib.hid (h.sane hl)
  have Hlo := Lib.hid (show lo ≤ w.heap.size by have := h.blk.lt; have := h.le; omega)
  have Ho := Lib.hid ho
  have Hn := Lib.hid hn
  have HbA := Lib.hid hbA
  have HloA := Lib.hid hloA
  have c0 : (((w.alloc (Obj.cells (d7A (dd7 d) (.slice a7 n7 c7)) 31)).alloc (Obj.cells (opA o) 37)).alloc (Obj.cells #[.slice none 0 0, .int .i64 0, .int .i64 0, .int .i64 0, .bool false] 31)).cell? ⟨w.heap.size + 1, 0, none⟩ = some (.int .i64 o.k) := (HS.out.y.cell 0).trans (opA_0 o)
  clear h hD ho hn hbA hloA
  go_enter Try.func12, Try.ntmps12
  go_upto_region 1 with fail
  generalize (((w.alloc (Obj.cells (d7A (dd7 d) (.slice a7 n7 c7)) 31)).alloc (Obj.cells (opA o) 37)).alloc (Obj.cells #[.slice none 0 0, .int .i64 0, .int .i64 0, .int .i64 0, .bool false] 31)) = w0 at *
  have c1 : w0.cell? ⟨w.heap.size + 1, 1, none⟩ = some (.int .i64 o.z) := (HS.out.y.cell 1).trans (opA_1 o)
  have c2 : w0.cell? ⟨w.heap.size + 1, 2, none⟩ = some (.int .i64 o.off) := (HS.out.y.cell 2).trans (opA_2 o)
  have hl0 : lo ≤ w0.heap.size := by have := HS.out.g.lt; have := Hlo.out; omega
  have Hl0 := Lib.hid hl0
  clear hl0
  have e1 : (o.k == 1) = false := by simp; omega
  have e2 : (o.k == 2) = false := by simp; omega
  have e3 : (o.k == 3) = false := by simp; omega
  have e4 : (o.k == 4) = false := by simp; omega
  have e5 : (o.k == 5) = false := by simp; omega
  have e6 : (o.k == 6) = false := by simp; omega
  have e7 : (o.k == 7) = false := by simp; omega
  have e8 : (o.k == 8) = false := by simp; omega
  have e9 : (o.k == 9) = false := by simp; omega
  clear hk
  have HN := Lib.hid (HS.out.cmd (R := ⟨0, 0, d, l.map ZcR.z⟩) HA.out HD.out (DvTo.same HA.out (Below.refl _ _)))
  go_wp2_with (first | (refine wpl_load rfl _ rfl (w.heap.size) rfl _ _ _ (HN.out.x) Try.underlying31 rfl Try.info7D ?_; go_frame) | (refine wpl_store rfl _ _ rfl (w.heap.size + 2) (d7A (dd7 d) (.slice a7 n7 c7)) rfl rfl _ _ HN.out.g Try.info7D rfl (d7A_one _ _ _ _) ?_; intro w9 hSg hKg; have HF := Lib.hid (HN.out.out hSg hKg); clear hSg hKg; go_frame))
  exact bodyPost_ret (v := .tuple #[.agg (d7A (dd7 ((⟨0, 0, d, l.map ZcR.z⟩ : OutR)).d) (.slice a7 n7 c7)), .bool true]) (results_cell_slot Try.results12 _ _ (w.heap.size + 2) 31 _ _ _ rfl rfl HF.out.g Try.underlying31 rfl Try.info7D) rfl ⟨_, rfl, HF.out.doc, HF.out.dv⟩

end Go.Proofs.Ytlngdndamgopeaa

/-
  Layer 7 (zdev): a step of both: kind 2.
-/
namespace Go.Proofs.Ytlngdndamgopeaa
open Go.RowKit
set_option linter.unusedVariables false
set_option linter.unnecessarySimpa false
set_option linter.unusedSimpArgs false


set_option maxRecDepth 100000 in
set_option maxHeartbeats 4000000 in
theorem st7_2 {lo D : Nat} {w wA : World} {vz v7 : Value} {d : DvR} {l : List ZcR} (o : Op7) (ho : Op7Ok wA o) (hbA : Below wA.heap.size wA w) (hloA : wA.heap.size ≤ lo) (h : DvAt lo w D vz d l) (hD : Doc lo w v7 (l.map ZcR.z)) (hn : 0 ≤ d.count ∧ d.count ≤ 1000000) (hl : l.length ≤ 1000) (hk : o.k = 2) :
    Calls Try.prog 12 #[.pointer (some ⟨D, 0, none⟩), .agg (d7A (dd7 d) v7), .agg (opA o)] w (STo7 lo w D vz l (rdSp d (l.map ZcR.z) o.z o.off)) := by
  obtain ⟨a7, n7, c7, rfl⟩ : ∃ a n c, v7 = .slice a n c := by
    obtain ⟨l7, r, _⟩ := hD
    obtain ⟨a, c, e⟩ := own_slice r.own
    exact ⟨a, _, c, e⟩
  have HS : Hid (Trio7 31 37 31 w (d7A (dd7 d) (.slice a7 n7 c7)) (opA o) d7Z (((w.alloc (Obj.cells (d7A (dd7 d) (.slice a7 n7 c7)) 31)).alloc (Obj.cells (opA o) 37)).alloc (Obj.cells #[.slice none 0 0, .int .i64 0, .int .i64 0, .int .i64 0, .bool false] 31))) := Lib.hid Trio7.start
  have HA := Lib.hid (h.below HS.out.b)
  have HD := Lib.hid (hD.below HS.out.b)
  have Hsn := Lib.hid (h.sane hl)
  have Hlo := Lib.hid (show lo ≤ w.heap.size by have := h.blk.lt; have := h.le; omega)
  have Ho := Lib.hid ho
  have Hn := Lib.hid hn
  have HbA := Lib.hid hbA
  have HloA := Lib.hid hloA
  have c0 : (((w.alloc (Obj.cells (d7A (dd7 d) (.slice a7 n7 c7)) 31)).alloc (Obj.cells (opA o) 37)).alloc (Obj.cells #[.slice none 0 0, .int .i64 0, .int .i64 0, .int .i64 0, .bool false] 31)).cell? ⟨w.heap.size + 1, 0, none⟩ = some (.int .i64 2) := (HS.out.y.cell 0).trans ((opA_0 o).trans (by rw [hk]))
  clear h hD ho hn hbA hloA
  go_enter Try.func12, Try.ntmps12
  go_upto_region 1 with fail
  generalize (((w.alloc (Obj.cells (d7A (dd7 d) (.slice a7 n7 c7)) 31)).alloc (Obj.cells (opA o) 37)).alloc (Obj.cells #[.slice none 0 0, .int .i64 0, .int .i64 0, .int .i64 0, .bool false] 31)) = w0 at *
  have c1 : w0.cell? ⟨w.heap.size + 1, 1, none⟩ = some (.int .i64 o.z) := (HS.out.y.cell 1).trans (opA_1 o)
  have c2 : w0.cell? ⟨w.heap.size + 1, 2, none⟩ = some (.int .i64 o.off) := (HS.out.y.cell 2).trans (opA_2 o)
  have hl0 : lo ≤ w0.heap.size := by have := HS.out.g.lt; have := Hlo.out; omega
  have Hl0 := Lib.hid hl0
  clear hl0
  clear hk
  have hV : (rdV7 d (l.map ZcR.z) o.z o.off).length = 64 := by
    unfold rdV7
    by_cases h1 : cmdE d (l.map ZcR.z).length o.z = 0
    · rw [if_neg (fun h => h h1)]
      obtain ⟨k, hk, hk2, _⟩ := cmd_in h1
      obtain ⟨cc, hc⟩ := cof hk2
      rw [hk, zsat_of (zof hc)]
      exact rdVS_64 (HA.out.ok k cc hc) _
    · rw [if_pos h1]; exact zeros_length 64
  have HV := Lib.hid hV
  have hz64 := zero_secF
  have hz65 := zero_s64
  clear hV
  go_wp2_with fail
  refine (crd7 o.z o.off HA.out Hn.out).mono ?_
  rintro e w1 ⟨rfl, hT⟩
  have HN := Lib.hid (HS.out.cmd HA.out HD.out hT)
  clear hT c0 c1 c2
  go_upto_region 8 with (first | (refine wpl_store_new rfl _ _ rfl (bA (rdV7 d (l.map ZcR.z) o.z o.off)) w1 34 (bA (zeros 64)) rfl rfl rfl (info_sec HV.out) (by rw [bA_size, bA_size, zeros_length, HV.out]) (bA_one _) ?_; go_frame))
  have HYs := Lib.hid (Blk.new w1 34 (bA (rdV7 d (l.map ZcR.z) o.z o.off)))
  have HN2 := Lib.hid (HN.out.below (below_alloc w1 (Obj.cells (bA (rdV7 d (l.map ZcR.z) o.z o.off)) 34)))
  have HYsl := Lib.hid HN.out.g.lt
  clear HN
  generalize w1.alloc (Obj.cells (bA (rdV7 d (l.map ZcR.z) o.z o.off)) 34) = w2 at *
  generalize w1.heap.size = Ys at *
  have c1 : w2.cell? ⟨w.heap.size + 1, 1, none⟩ = some (.int .i64 o.z) := (HN2.out.y.cell 1).trans (opA_1 o)
  have c2 : w2.cell? ⟨w.heap.size + 1, 2, none⟩ = some (.int .i64 o.off) := (HN2.out.y.cell 2).trans (opA_2 o)
  have hl1 : lo ≤ w2.heap.size := by have := HN2.out.g.lt; have := Hlo.out; omega
  go_wp2_with (first | (refine wpl_load rfl _ rfl (w.heap.size) rfl _ _ _ (HN2.out.x) Try.underlying31 rfl Try.info7D ?_; go_frame))
  refine (grd7 o.z o.off HN2.out.doc Hsn.out Hn.out hl1).mono ?_
  rintro e w3 ⟨v8, rfl, hd8, hb⟩
  obtain ⟨a8, n8, c8, rfl⟩ : ∃ a n c, v8 = .slice a n c := by
    obtain ⟨l8, r, _⟩ := hd8
    obtain ⟨a, c, e⟩ := own_slice r.own
    exact ⟨a, _, c, e⟩
  have HN3 := Lib.hid (HN2.out.told hb hd8)
  have HYs3 := Lib.hid (HYs.out.below hb HYs.out.lt)
  clear hb hd8 hl1 c1 c2 HN2 HYs
  have hw4 : (w3.alloc (Obj.cells d7Z 31)).heap.size = w3.heap.size + 1 := World.size_alloc _ _
  have HT0 := Lib.hid (two_new w3 d7Z (bA (zeros 64)))
  go_upto_region 9 with (first | (refine wpl_store rfl _ _ rfl (w3.heap.size) (d7A (dd7 (rdSp d (l.map ZcR.z) o.z o.off).d) (.slice a8 n8 c8)) rfl rfl _ _ HT0.out.1 Try.info7D rfl (d7A_one _ _ _ _) ?_; intro w5 hX5 hK5; have HX5 := Lib.hid hX5; have HY5 := Lib.hid (HT0.out.2.1.kept hK5 (by omega)); have HB5 := Lib.hid (HT0.out.2.2.trans (hK5.below (B := w3.heap.size) HT0.out.2.2.size (fun k hk e => by omega))); clear hX5 hK5; go_frame) | (refine wpl_store rfl _ _ rfl (w3.heap.size + 1) (bA (rdV7 d (l.map ZcR.z) o.z o.off)) rfl rfl _ _ HY5.out (info_64 HV.out) (by rw [bA_size, bA_size, zeros_length, HV.out]) (bA_one _) ?_; intro w6 hX6 hK6; have HY6 := Lib.hid hX6; have HX6 := Lib.hid (HX5.out.kept hK6 (by omega)); have HB6 := Lib.hid (HB5.out.trans (hK6.below (B := w3.heap.size) HB5.out.size (fun k hk e => by omega))); clear hX6 hK6; go_frame))
  have HN6 := Lib.hid (HN3.out.below HB6.out)
  have HYs6 := Lib.hid (HYs3.out.below HB6.out HYs3.out.lt)
  have Hw3 := Lib.hid HN3.out.g.lt
  clear hw4 HT0 HX5 HY5 HB5 HB6 HN3 HYs3
  refine wp_region_held (S := fun w' => Blk w' w3.heap.size 31 (d7A (dd7 (rdSp d (l.map ZcR.z) o.z o.off).d) (.slice a8 n8 c8)) ∧ Blk w' Ys 34 (bA (rdV7 d (l.map ZcR.z) o.z o.off)) ∧ Blk w' (w3.heap.size + 1) 33 (bA (rdV7 d (l.map ZcR.z) o.z o.off))) (by kernel_rfl) ?_
  change wpAnyH _ _ _ _ _ _ _ _ (World.drew _)
  have hS : Blk w6.drew w3.heap.size 31 (d7A (dd7 (rdSp d (l.map ZcR.z) o.z o.off).d) (.slice a8 n8 c8)) ∧ Blk w6.drew Ys 34 (bA (rdV7 d (l.map ZcR.z) o.z o.off)) ∧ Blk w6.drew (w3.heap.size + 1) 33 (bA (rdV7 d (l.map ZcR.z) o.z o.off)) := ⟨HX6.out, HYs6.out, HY6.out⟩
  refine takeH hS (i := 0) (d := 81) (v := .agg (d7A (dd7 (rdSp d (l.map ZcR.z) o.z o.off).d) (.slice a8 n8 c8))) rfl rfl (by kernel_rfl) (by kernel_rfl) (by kernel_rfl) (fun _ _ _ h => h) (Or.inl ⟨by kernel_rfl, fun w' hw' => by exact exec_load _ rfl (w3.heap.size) rfl hw'.1 Try.underlying31 rfl Try.info7D⟩) ?_
  refine takeH hS (i := 1) (d := 82) (v := .agg (bA (rdV7 d (l.map ZcR.z) o.z o.off))) rfl rfl (by kernel_rfl) (by kernel_rfl) (by kernel_rfl) (fun _ _ _ h => h) (Or.inl ⟨by kernel_rfl, fun w' hw' => by exact exec_load _ rfl Ys rfl hw'.2.1 Try.underlying34 rfl (info_sec HV.out)⟩) ?_
  refine takeH hS (i := 2) (d := 83) (v := .agg (bA (rdV7 d (l.map ZcR.z) o.z o.off))) rfl rfl (by kernel_rfl) (by kernel_rfl) (by kernel_rfl) (fun _ _ _ h => h) (Or.inl ⟨by kernel_rfl, fun w' hw' => by exact exec_load _ rfl (w3.heap.size + 1) rfl hw'.2.2 Try.underlying33 rfl (info_64 HV.out)⟩) ?_
  refine takeH hS (i := 3) (d := 84) (v := .bool true) rfl rfl (by kernel_rfl) (by kernel_rfl) (by kernel_rfl) (fun _ _ _ h => h) (Or.inl ⟨by kernel_rfl, fun w' hw' => by exact exec_eqlS ty64 _ _ _ rfl (rdV7 d (l.map ZcR.z) o.z o.off) (rdV7 d (l.map ZcR.z) o.z o.off) rfl rfl HV.out HV.out true (decide_eq_true rfl)⟩) ?_
  try go_frame
  refine takeH hS (i := 4) (d := 85) (v := .bool true) rfl rfl (by kernel_rfl) (by kernel_rfl) (by kernel_rfl) (fun _ _ _ h => h) (Or.inl ⟨by kernel_rfl, fun w' hw' => by kernel_rfl⟩) ?_
  refine takeH hS (i := 5) (d := 86) (v := .int .i64 ((rdSp d (l.map ZcR.z) o.z o.off).e)) rfl rfl (by kernel_rfl) (by kernel_rfl) (by kernel_rfl) (fun _ _ _ h => h) (Or.inl ⟨by kernel_rfl, fun w' hw' => by kernel_rfl⟩) ?_
  refine takeH hS (i := 6) (d := 87) (v := .int .i64 ((rdSp d (l.map ZcR.z) o.z o.off).e)) rfl rfl (by kernel_rfl) (by kernel_rfl) (by kernel_rfl) (fun _ _ _ h => h) (Or.inl ⟨by kernel_rfl, fun w' hw' => by kernel_rfl⟩) ?_
  refine takeH hS (i := 7) (d := 88) (v := .bool true) rfl rfl (by kernel_rfl) (by kernel_rfl) (by kernel_rfl) (fun _ _ _ h => h) (Or.inl ⟨by kernel_rfl, fun w' hw' => by exact exec_eql _ _ rfl ((rdSp d (l.map ZcR.z) o.z o.off).e) ((rdSp d (l.map ZcR.z) o.z o.off).e) rfl rfl true (decide_eq_true rfl) rfl⟩) ?_
  try go_frame
  refine takeH hS (i := 8) (d := 89) (v := .bool true) rfl rfl (by kernel_rfl) (by kernel_rfl) (by kernel_rfl) (fun _ _ _ h => h) (Or.inl ⟨by kernel_rfl, fun w' hw' => by kernel_rfl⟩) ?_
  try go_frame
  have HN7 := Lib.hid (HN6.out.below ((Below.refl _ w6).drew))
  refine nextH (i := 9) rfl (by kernel_rfl) (by kernel_rfl) (fun K' hK => ?_)
  refine wpo_store _ _ rfl (w.heap.size + 2) (d7A (dd7 (rdSp d (l.map ZcR.z) o.z o.off).d) (.slice a8 n8 c8)) rfl rfl _ _ HN7.out.g (Try.info7D) rfl (d7A_one _ _ _ _) ?_
  intro w9 hSg hKg
  have HF := Lib.hid (HN7.out.out hSg hKg)
  refine hK.out _ _ ⟨⟨hS.1.kept hKg (by have := Hw3.out; omega), hS.2.1.kept hKg (by have := HYsl.out; omega), hS.2.2.kept hKg (by have := Hw3.out; omega)⟩, ?_⟩
  have hS2 : Blk w9 w3.heap.size 31 (d7A (dd7 (rdSp d (l.map ZcR.z) o.z o.off).d) (.slice a8 n8 c8)) ∧ Blk w9 Ys 34 (bA (rdV7 d (l.map ZcR.z) o.z o.off)) ∧ Blk w9 (w3.heap.size + 1) 33 (bA (rdV7 d (l.map ZcR.z) o.z o.off)) := ⟨hS.1.kept hKg (by have := Hw3.out; omega), hS.2.1.kept hKg (by have := HYsl.out; omega), hS.2.2.kept hKg (by have := Hw3.out; omega)⟩
  clear hK K' hSg hKg hS
  try go_frame
  refine takeH hS2 (i := 10) (d := 7) (v := .bool true) rfl rfl (by kernel_rfl) (by kernel_rfl) (by kernel_rfl) (fun _ _ _ h => h) (Or.inl ⟨by kernel_rfl, fun w' hw' => by kernel_rfl⟩) ?_
  try go_frame
  refine wpAnyH_done (by kernel_rfl) ?_ _
  go_wp2_with fail
  exact bodyPost_ret (v := .tuple #[.agg (d7A (dd7 (rdSp d (l.map ZcR.z) o.z o.off).d) (.slice a8 n8 c8)), .bool true]) (results_cell_slot Try.results12 _ _ (w.heap.size + 2) 31 _ _ _ rfl rfl HF.out.g Try.underlying31 rfl Try.info7D) rfl ⟨_, rfl, HF.out.doc, HF.out.dv⟩

end Go.Proofs.Ytlngdndamgopeaa

/-
  Layer 7 (zdev): a step of both: kind 3, 4.
-/
namespace Go.Proofs.Ytlngdndamgopeaa
open Go.RowKit
set_option linter.unusedVariables false
set_option linter.unnecessarySimpa false
set_option linter.unusedSimpArgs false


set_option maxRecDepth 100000 in
set_option maxHeartbeats 4000000 in
theorem st7_3 {lo D : Nat} {w wA : World} {vz v7 : Value} {d : DvR} {l : List ZcR} (o : Op7) (ho : Op7Ok wA o) (hbA : Below wA.heap.size wA w) (hloA : wA.heap.size ≤ lo) (h : DvAt lo w D vz d l) (hD : Doc lo w v7 (l.map ZcR.z)) (hn : 0 ≤ d.count ∧ d.count ≤ 1000000) (hl : l.length ≤ 1000) (hk : o.k = 3) :
    Calls Try.prog 12 #[.pointer (some ⟨D, 0, none⟩), .agg (d7A (dd7 d) v7), .agg (opA o)] w (STo7 lo w D vz l (rsSp d (l.map ZcR.z) o.z)) := by
  obtain ⟨a7, n7, c7, rfl⟩ : ∃ a n c, v7 = .slice a n c := by
    obtain ⟨l7, r, _⟩ := hD
    obtain ⟨a, c, e⟩ := own_slice r.own
    exact ⟨a, _, c, e⟩
  have HS : Hid (Trio7 31 37 31 w (d7A (dd7 d) (.slice a7 n7 c7)) (opA o) d7Z (((w.alloc (Obj.cells (d7A (dd7 d) (.slice a7 n7 c7)) 31)).alloc (Obj.cells (opA o) 37)).alloc (Obj.cells #[.slice none 0 0, .int .i64 0, .int .i64 0, .int .i64 0, .bool false] 31))) := Lib.hid Trio7.start
  have HA := Lib.hid (h.below HS.out.b)
  have HD := Lib.hid (hD.below HS.out.b)
  have Hsn := Lib.hid (h.sane hl)
  have Hlo := Lib.hid (show lo ≤ w.heap.size by have := h.blk.lt; have := h.le; omega)
  have Ho := Lib.hid ho
  have Hn := Lib.hid hn
  have HbA := Lib.hid hbA
  have HloA := Lib.hid hloA
  have c0 : (((w.alloc (Obj.cells (d7A (dd7 d) (.slice a7 n7 c7)) 31)).alloc (Obj.cells (opA o) 37)).alloc (Obj.cells #[.slice none 0 0, .int .i64 0, .int .i64 0, .int .i64 0, .bool false] 31)).cell? ⟨w.heap.size + 1, 0, none⟩ = some (.int .i64 3) := (HS.out.y.cell 0).trans ((opA_0 o).trans (by rw [hk]))
  clear h hD ho hn hbA hloA
  go_enter Try.func12, Try.ntmps12
  go_upto_region 1 with fail
  generalize (((w.alloc (Obj.cells (d7A (dd7 d) (.slice a7 n7 c7)) 31)).alloc (Obj.cells (opA o) 37)).alloc (Obj.cells #[.slice none 0 0, .int .i64 0, .int .i64 0, .int .i64 0, .bool false] 31)) = w0 at *
  have c1 : w0.cell? ⟨w.heap.size + 1, 1, none⟩ = some (.int .i64 o.z) := (HS.out.y.cell 1).trans (opA_1 o)
  have c2 : w0.cell? ⟨w.heap.size + 1, 2, none⟩ = some (.int .i64 o.off) := (HS.out.y.cell 2).trans (opA_2 o)
  have hl0 : lo ≤ w0.heap.size := by have := HS.out.g.lt; have := Hlo.out; omega
  have Hl0 := Lib.hid hl0
  clear hl0
  clear hk
  go_wp2_with (first | (refine wpl_load rfl _ rfl (w.heap.size) rfl _ _ _ (HS.out.x) Try.underlying31 rfl Try.info7D ?_; go_frame) | (refine wpl_load_mid (by rfl) 34 _ rfl (w.heap.size + 1) 3 rfl o.s _ (op_range HS.out.y) Try.underlying34 rfl (by rw [bvals_length]; exact (info_sec Ho.out.len).trans (by rw [bA_size])) ?_; go_frame))
  refine (grs7 o.z HD.out Hsn.out Hn.out Hl0.out).mono ?_
  rintro e w2 ⟨v8, rfl, hd8, hb⟩
  obtain ⟨a8, n8, c8, rfl⟩ : ∃ a n c, v8 = .slice a n c := by
    obtain ⟨l8, r, _⟩ := hd8
    obtain ⟨a, c, e⟩ := own_slice r.own
    exact ⟨a, _, c, e⟩
  have HS2 := Lib.hid (HS.out.below hb)
  have HA2 := Lib.hid (HA.out.below hb)
  have HD2 := Lib.hid hd8
  clear hb hd8 c0 c1 c2
  go_upto_region 12 with (first | (refine wpl_store_new rfl _ _ rfl (d7A (dd7 (rsSp d (l.map ZcR.z) o.z).d) (.slice a8 n8 c8)) w2 31 d7Z rfl rfl rfl Try.info7D rfl (d7A_one _ _ _ _) ?_; go_frame))
  have HY := Lib.hid (Blk.new w2 31 (d7A (dd7 (rsSp d (l.map ZcR.z) o.z).d) (.slice a8 n8 c8)))
  have hb3 := below_alloc w2 (Obj.cells (d7A (dd7 (rsSp d (l.map ZcR.z) o.z).d) (.slice a8 n8 c8)) 31)
  have HS3 := Lib.hid (HS2.out.below hb3)
  have HA3 := Lib.hid (HA2.out.below hb3)
  have HD3 := Lib.hid (HD2.out.below hb3)
  have HYl := Lib.hid HS2.out.g.lt
  clear hb3 HS HS2 HA HA2 HD HD2
  generalize w2.alloc (Obj.cells (d7A (dd7 (rsSp d (l.map ZcR.z) o.z).d) (.slice a8 n8 c8)) 31) = w3 at *
  refine wp_region_held (S := fun w' => Blk w' w2.heap.size 31 (d7A (dd7 (rsSp d (l.map ZcR.z) o.z).d) (.slice a8 n8 c8)) ∧ Blk w' (w.heap.size + 1) 37 (opA o)) (by kernel_rfl) ?_
  change wpAnyH _ _ _ _ _ _ _ _ (World.drew _)
  have hS : Blk w3.drew w2.heap.size 31 (d7A (dd7 (rsSp d (l.map ZcR.z) o.z).d) (.slice a8 n8 c8)) ∧ Blk w3.drew (w.heap.size + 1) 37 (opA o) := ⟨HY.out, HS3.out.y⟩
  refine takeH hS (i := 0) (d := 99) (v := .agg (d7A (dd7 (rsSp d (l.map ZcR.z) o.z).d) (.slice a8 n8 c8))) rfl rfl (by kernel_rfl) (by kernel_rfl) (by kernel_rfl) (fun _ _ _ h => h) (Or.inl ⟨by kernel_rfl, fun w' hw' => by exact exec_load _ rfl (w2.heap.size) rfl hw'.1 Try.underlying31 rfl Try.info7D⟩) ?_
  refine takeH hS (i := 1) (d := 100) (v := .pointer (some ⟨D, 0, none⟩)) rfl rfl (by kernel_rfl) (by kernel_rfl) (by kernel_rfl) (fun _ _ _ h => h) (Or.inl ⟨by kernel_rfl, fun w' hw' => by kernel_rfl⟩) ?_
  refine takeH hS (i := 2) (d := 101) (v := .pointer (some ⟨w.heap.size + 1, 1, none⟩)) rfl rfl (by kernel_rfl) (by kernel_rfl) (by kernel_rfl) (fun _ _ _ h => h) (Or.inl ⟨by kernel_rfl, fun w' hw' => by kernel_rfl⟩) ?_
  try go_frame
  refine takeH hS (i := 3) (d := 102) (v := .int .i64 o.z) rfl rfl (by kernel_rfl) (by kernel_rfl) (by kernel_rfl) (fun _ _ _ h => h) (Or.inl ⟨by kernel_rfl, fun w' hw' => by exact exec_cell _ rfl ⟨w.heap.size + 1, 1, none⟩ rfl _ Try.underlying3 ((hw'.2.cell 1).trans (opA_1 o))⟩) ?_
  refine takeH hS (i := 5) (d := 104) (v := .int .i64 ((rsSp d (l.map ZcR.z) o.z).e)) rfl rfl (by kernel_rfl) (by kernel_rfl) (by kernel_rfl) (fun _ _ _ h => h) (Or.inl ⟨by kernel_rfl, fun w' hw' => by kernel_rfl⟩) ?_
  try go_frame
  have hbd : Below w3.heap.size w3 w3.drew := (Below.refl _ _).drew
  have HA4 := Lib.hid (HA3.out.below hbd)
  have HS4 := Lib.hid (HS3.out.below hbd)
  have HD4 := Lib.hid (HD3.out.below hbd)
  clear hbd HA3 HS3 HD3
  refine nextH (i := 4) rfl (by kernel_rfl) (by kernel_rfl) (fun K' hK => ?_)
  go_wp2_with fail
  refine (crs7 o.z HA4.out Hn.out).mono ?_
  rintro en w5 ⟨rfl, hT⟩
  have hS5 : Blk w5 w2.heap.size 31 (d7A (dd7 (rsSp d (l.map ZcR.z) o.z).d) (.slice a8 n8 c8)) ∧ Blk w5 (w.heap.size + 1) 37 (opA o) := ⟨hT.blk HA4.out hS.1 (by decide) (by decide) (by decide) (by decide), hT.blk HA4.out hS.2 (by decide) (by decide) (by decide) (by decide)⟩
  have HN := Lib.hid (HS4.out.cmd (R := rsSp d (l.map ZcR.z) o.z) HA4.out HD4.out hT)
  refine hK.out _ _ ⟨hS5, ?_⟩
  clear hK K' hS hT HA4 HS4 HD4
  try go_frame
  refine takeH hS5 (i := 6) (d := 105) (v := .bool true) rfl rfl (by kernel_rfl) (by kernel_rfl) (by kernel_rfl) (fun _ _ _ h => h) (Or.inl ⟨by kernel_rfl, fun w' hw' => by exact exec_eql _ _ rfl ((rsSp d (l.map ZcR.z) o.z).e) ((rsSp d (l.map ZcR.z) o.z).e) rfl rfl true (decide_eq_true rfl) rfl⟩) ?_
  try go_frame
  refine nextH (i := 7) rfl (by kernel_rfl) (by kernel_rfl) (fun K' hK => ?_)
  refine wpo_store _ _ rfl (w.heap.size + 2) (d7A (dd7 (rsSp d (l.map ZcR.z) o.z).d) (.slice a8 n8 c8)) rfl rfl _ _ HN.out.g (Try.info7D) rfl (d7A_one _ _ _ _) ?_
  intro w9 hSg hKg
  have HF := Lib.hid (HN.out.out hSg hKg)
  have hS6 : Blk w9 w2.heap.size 31 (d7A (dd7 (rsSp d (l.map ZcR.z) o.z).d) (.slice a8 n8 c8)) ∧ Blk w9 (w.heap.size + 1) 37 (opA o) := ⟨hS5.1.kept hKg (by have := HYl.out; omega), hS5.2.kept hKg (by omega)⟩
  refine hK.out _ _ ⟨hS6, ?_⟩
  clear hK K' hSg hKg hS5
  try go_frame
  refine takeH hS6 (i := 8) (d := 7) (v := .bool true) rfl rfl (by kernel_rfl) (by kernel_rfl) (by kernel_rfl) (fun _ _ _ h => h) (Or.inl ⟨by kernel_rfl, fun w' hw' => by kernel_rfl⟩) ?_
  try go_frame
  refine wpAnyH_done (by kernel_rfl) ?_ _
  go_wp2_with fail
  exact bodyPost_ret (v := .tuple #[.agg (d7A (dd7 (rsSp d (l.map ZcR.z) o.z).d) (.slice a8 n8 c8)), .bool true]) (results_cell_slot Try.results12 _ _ (w.heap.size + 2) 31 _ _ _ rfl rfl HF.out.g Try.underlying31 rfl Try.info7D) rfl ⟨_, rfl, HF.out.doc, HF.out.dv⟩

set_option maxRecDepth 100000 in
set_option maxHeartbeats 4000000 in
theorem st7_4 {lo D : Nat} {w wA : World} {vz v7 : Value} {d : DvR} {l : List ZcR} (o : Op7) (ho : Op7Ok wA o) (hbA : Below wA.heap.size wA w) (hloA : wA.heap.size ≤ lo) (h : DvAt lo w D vz d l) (hD : Doc lo w v7 (l.map ZcR.z)) (hn : 0 ≤ d.count ∧ d.count ≤ 1000000) (hl : l.length ≤ 1000) (hk : o.k = 4) :
    Calls Try.prog 12 #[.pointer (some ⟨D, 0, none⟩), .agg (d7A (dd7 d) v7), .agg (opA o)] w (STo7 lo w D vz l (fnSp d (l.map ZcR.z) o.z)) := by
  obtain ⟨a7, n7, c7, rfl⟩ : ∃ a n c, v7 = .slice a n c := by
    obtain ⟨l7, r, _⟩ := hD
    obtain ⟨a, c, e⟩ := own_slice r.own
    exact ⟨a, _, c, e⟩
  have HS : Hid (Trio7 31 37 31 w (d7A (dd7 d) (.slice a7 n7 c7)) (opA o) d7Z (((w.alloc (Obj.cells (d7A (dd7 d) (.slice a7 n7 c7)) 31)).alloc (Obj.cells (opA o) 37)).alloc (Obj.cells #[.slice none 0 0, .int .i64 0, .int .i64 0, .int .i64 0, .bool false] 31))) := Lib.hid Trio7.start
  have HA := Lib.hid (h.below HS.out.b)
  have HD := Lib.hid (hD.below HS.out.b)
  have Hsn := Lib.hid (h.sane hl)
  have Hlo := Lib.hid (show lo ≤ w.heap.size by have := h.blk.lt; have := h.le; omega)
  have Ho := Lib.hid ho
  have Hn := Lib.hid hn
  have HbA := Lib.hid hbA
  have HloA := Lib.hid hloA
  have c0 : (((w.alloc (Obj.cells (d7A (dd7 d) (.slice a7 n7 c7)) 31)).alloc (Obj.cells (opA o) 37)).alloc (Obj.cells #[.slice none 0 0, .int .i64 0, .int .i64 0, .int .i64 0, .bool false] 31)).cell? ⟨w.heap.size + 1, 0, none⟩ = some (.int .i64 4) := (HS.out.y.cell 0).trans ((opA_0 o).trans (by rw [hk]))
  clear h hD ho hn hbA hloA
  go_enter Try.func12, Try.ntmps12
  go_upto_region 1 with fail
  generalize (((w.alloc (Obj.cells (d7A (dd7 d) (.slice a7 n7 c7)) 31)).alloc (Obj.cells (opA o) 37)).alloc (Obj.cells #[.slice none 0 0, .int .i64 0, .int .i64 0, .int .i64 0, .bool false] 31)) = w0 at *
  have c1 : w0.cell? ⟨w.heap.size + 1, 1, none⟩ = some (.int .i64 o.z) := (HS.out.y.cell 1).trans (opA_1 o)
  have c2 : w0.cell? ⟨w.heap.size + 1, 2, none⟩ = some (.int .i64 o.off) := (HS.out.y.cell 2).trans (opA_2 o)
  have hl0 : lo ≤ w0.heap.size := by have := HS.out.g.lt; have := Hlo.out; omega
  have Hl0 := Lib.hid hl0
  clear hl0
  clear hk
  go_wp2_with (first | (refine wpl_load rfl _ rfl (w.heap.size) rfl _ _ _ (HS.out.x) Try.underlying31 rfl Try.info7D ?_; go_frame) | (refine wpl_load_mid (by rfl) 34 _ rfl (w.heap.size + 1) 3 rfl o.s _ (op_range HS.out.y) Try.underlying34 rfl (by rw [bvals_length]; exact (info_sec Ho.out.len).trans (by rw [bA_size])) ?_; go_frame))
  refine (gfn7 o.z HD.out Hsn.out Hn.out Hl0.out).mono ?_
  rintro e w2 ⟨v8, rfl, hd8, hb⟩
  obtain ⟨a8, n8, c8, rfl⟩ : ∃ a n c, v8 = .slice a n c := by
    obtain ⟨l8, r, _⟩ := hd8
    obtain ⟨a, c, e⟩ := own_slice r.own
    exact ⟨a, _, c, e⟩
  have HS2 := Lib.hid (HS.out.below hb)
  have HA2 := Lib.hid (HA.out.below hb)
  have HD2 := Lib.hid hd8
  clear hb hd8 c0 c1 c2
  go_upto_region 15 with (first | (refine wpl_store_new rfl _ _ rfl (d7A (dd7 (fnSp d (l.map ZcR.z) o.z).d) (.slice a8 n8 c8)) w2 31 d7Z rfl rfl rfl Try.info7D rfl (d7A_one _ _ _ _) ?_; go_frame))
  have HY := Lib.hid (Blk.new w2 31 (d7A (dd7 (fnSp d (l.map ZcR.z) o.z).d) (.slice a8 n8 c8)))
  have hb3 := below_alloc w2 (Obj.cells (d7A (dd7 (fnSp d (l.map ZcR.z) o.z).d) (.slice a8 n8 c8)) 31)
  have HS3 := Lib.hid (HS2.out.below hb3)
  have HA3 := Lib.hid (HA2.out.below hb3)
  have HD3 := Lib.hid (HD2.out.below hb3)
  have HYl := Lib.hid HS2.out.g.lt
  clear hb3 HS HS2 HA HA2 HD HD2
  generalize w2.alloc (Obj.cells (d7A (dd7 (fnSp d (l.map ZcR.z) o.z).d) (.slice a8 n8 c8)) 31) = w3 at *
  refine wp_region_held (S := fun w' => Blk w' w2.heap.size 31 (d7A (dd7 (fnSp d (l.map ZcR.z) o.z).d) (.slice a8 n8 c8)) ∧ Blk w' (w.heap.size + 1) 37 (opA o)) (by kernel_rfl) ?_
  change wpAnyH _ _ _ _ _ _ _ _ (World.drew _)
  have hS : Blk w3.drew w2.heap.size 31 (d7A (dd7 (fnSp d (l.map ZcR.z) o.z).d) (.slice a8 n8 c8)) ∧ Blk w3.drew (w.heap.size + 1) 37 (opA o) := ⟨HY.out, HS3.out.y⟩
  refine takeH hS (i := 0) (d := 115) (v := .agg (d7A (dd7 (fnSp d (l.map ZcR.z) o.z).d) (.slice a8 n8 c8))) rfl rfl (by kernel_rfl) (by kernel_rfl) (by kernel_rfl) (fun _ _ _ h => h) (Or.inl ⟨by kernel_rfl, fun w' hw' => by exact exec_load _ rfl (w2.heap.size) rfl hw'.1 Try.underlying31 rfl Try.info7D⟩) ?_
  refine takeH hS (i := 1) (d := 116) (v := .pointer (some ⟨D, 0, none⟩)) rfl rfl (by kernel_rfl) (by kernel_rfl) (by kernel_rfl) (fun _ _ _ h => h) (Or.inl ⟨by kernel_rfl, fun w' hw' => by kernel_rfl⟩) ?_
  refine takeH hS (i := 2) (d := 117) (v := .pointer (some ⟨w.heap.size + 1, 1, none⟩)) rfl rfl (by kernel_rfl) (by kernel_rfl) (by kernel_rfl) (fun _ _ _ h => h) (Or.inl ⟨by kernel_rfl, fun w' hw' => by kernel_rfl⟩) ?_
  try go_frame
  refine takeH hS (i := 3) (d := 118) (v := .int .i64 o.z) rfl rfl (by kernel_rfl) (by kernel_rfl) (by kernel_rfl) (fun _ _ _ h => h) (Or.inl ⟨by kernel_rfl, fun w' hw' => by exact exec_cell _ rfl ⟨w.heap.size + 1, 1, none⟩ rfl _ Try.underlying3 ((hw'.2.cell 1).trans (opA_1 o))⟩) ?_
  refine takeH hS (i := 5) (d := 120) (v := .int .i64 ((fnSp d (l.map ZcR.z) o.z).e)) rfl rfl (by kernel_rfl) (by kernel_rfl) (by kernel_rfl) (fun _ _ _ h => h) (Or.inl ⟨by kernel_rfl, fun w' hw' => by kernel_rfl⟩) ?_
  try go_frame
  have hbd : Below w3.heap.size w3 w3.drew := (Below.refl _ _).drew
  have HA4 := Lib.hid (HA3.out.below hbd)
  have HS4 := Lib.hid (HS3.out.below hbd)
  have HD4 := Lib.hid (HD3.out.below hbd)
  clear hbd HA3 HS3 HD3
  refine nextH (i := 4) rfl (by kernel_rfl) (by kernel_rfl) (fun K' hK => ?_)
  go_wp2_with fail
  refine (cfn7 o.z HA4.out Hn.out).mono ?_
  rintro en w5 ⟨rfl, hT⟩
  have hS5 : Blk w5 w2.heap.size 31 (d7A (dd7 (fnSp d (l.map ZcR.z) o.z).d) (.slice a8 n8 c8)) ∧ Blk w5 (w.heap.size + 1) 37 (opA o) := ⟨hT.blk HA4.out hS.1 (by decide) (by decide) (by decide) (by decide), hT.blk HA4.out hS.2 (by decide) (by decide) (by decide) (by decide)⟩
  have HN := Lib.hid (HS4.out.cmd (R := fnSp d (l.map ZcR.z) o.z) HA4.out HD4.out hT)
  refine hK.out _ _ ⟨hS5, ?_⟩
  clear hK K' hS hT HA4 HS4 HD4
  try go_frame
  refine takeH hS5 (i := 6) (d := 121) (v := .bool true) rfl rfl (by kernel_rfl) (by kernel_rfl) (by kernel_rfl) (fun _ _ _ h => h) (Or.inl ⟨by kernel_rfl, fun w' hw' => by exact exec_eql _ _ rfl ((fnSp d (l.map ZcR.z) o.z).e) ((fnSp d (l.map ZcR.z) o.z).e) rfl rfl true (decide_eq_true rfl) rfl⟩) ?_
  try go_frame
  refine nextH (i := 7) rfl (by kernel_rfl) (by kernel_rfl) (fun K' hK => ?_)
  refine wpo_store _ _ rfl (w.heap.size + 2) (d7A (dd7 (fnSp d (l.map ZcR.z) o.z).d) (.slice a8 n8 c8)) rfl rfl _ _ HN.out.g (Try.info7D) rfl (d7A_one _ _ _ _) ?_
  intro w9 hSg hKg
  have HF := Lib.hid (HN.out.out hSg hKg)
  have hS6 : Blk w9 w2.heap.size 31 (d7A (dd7 (fnSp d (l.map ZcR.z) o.z).d) (.slice a8 n8 c8)) ∧ Blk w9 (w.heap.size + 1) 37 (opA o) := ⟨hS5.1.kept hKg (by have := HYl.out; omega), hS5.2.kept hKg (by omega)⟩
  refine hK.out _ _ ⟨hS6, ?_⟩
  clear hK K' hSg hKg hS5
  try go_frame
  refine takeH hS6 (i := 8) (d := 7) (v := .bool true) rfl rfl (by kernel_rfl) (by kernel_rfl) (by kernel_rfl) (fun _ _ _ h => h) (Or.inl ⟨by kernel_rfl, fun w' hw' => by kernel_rfl⟩) ?_
  try go_frame
  refine wpAnyH_done (by kernel_rfl) ?_ _
  go_wp2_with fail
  exact bodyPost_ret (v := .tuple #[.agg (d7A (dd7 (fnSp d (l.map ZcR.z) o.z).d) (.slice a8 n8 c8)), .bool true]) (results_cell_slot Try.results12 _ _ (w.heap.size + 2) 31 _ _ _ rfl rfl HF.out.g Try.underlying31 rfl Try.info7D) rfl ⟨_, rfl, HF.out.doc, HF.out.dv⟩

end Go.Proofs.Ytlngdndamgopeaa

