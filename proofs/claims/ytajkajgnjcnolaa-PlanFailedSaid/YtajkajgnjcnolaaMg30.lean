import Derived.Test.YtajkajgnjcnolaaMg29
import Derived.Test.YtajkajgnjcnolaaMg07
import Derived.Test.YtajkajgnjcnolaaMg11
import Derived.OwnWalkIn
import Derived.Test.YtajkajgnjcnolaaMg17
import Derived.Test.YtajkajgnjcnolaaMg08
import Derived.RangeFuncNested
import Derived.OrdersIn
/-
  Layer 8 (plan): what stays while steps are taken: bounds; zones that failed stay failed. Plain.
-/
namespace Go.Proofs.Ytajkajgnjcnolaa
open Go.RowKit
set_option linter.unusedVariables false
set_option linter.unnecessarySimpa false
set_option linter.unusedSimpArgs false

/-- What a command keeps of the device. -/
def Keep7 (d : DvR) (zs : List ZsR) (O : OutR) : Prop := O.zs.length = zs.length ∧ d.count ≤ O.d.count ∧ O.d.count ≤ d.count + 1
section
variable (d : DvR) (zs : List ZsR)
theorem keep7_of {O : OutR} (o : Op7) (h : stSp d zs o = O) : Keep7 d zs O := by
  subst h
  obtain ⟨h1, _, _, h2, h3⟩ := stSp_keeps (d := d) (zs := zs) (o := o)
  exact ⟨h1, h2, h3⟩
theorem apK (i : Int) (s : List Nat) : Keep7 d zs (apSp d zs i s) := keep7_of d zs ⟨1, i, 0, s, none, 0, 0, []⟩ (by unfold stSp; rw [if_pos rfl])
theorem rdK (i off : Int) : Keep7 d zs (rdSp d zs i off) := keep7_of d zs ⟨2, i, off, [], none, 0, 0, []⟩ (by unfold stSp; rw [if_neg (by simp), if_pos rfl])
theorem rsK (i : Int) : Keep7 d zs (rsSp d zs i) := keep7_of d zs ⟨3, i, 0, [], none, 0, 0, []⟩ (by unfold stSp; rw [if_neg (by simp), if_neg (by simp), if_pos rfl])
theorem fnK (i : Int) : Keep7 d zs (fnSp d zs i) := keep7_of d zs ⟨4, i, 0, [], none, 0, 0, []⟩ (by unfold stSp; rw [if_neg (by simp), if_neg (by simp), if_neg (by simp), if_pos rfl])
theorem flK : Keep7 d zs (flSp d zs) := keep7_of d zs ⟨5, 0, 0, [], none, 0, 0, []⟩ (by unfold stSp; rw [if_neg (by simp), if_neg (by simp), if_neg (by simp), if_neg (by simp), if_pos rfl])
theorem rvK (ks : List Int) : Keep7 d zs (rvSp d zs ks) := keep7_of d zs ⟨7, 0, 0, [], none, 0, 0, ks⟩ (by unfold stSp; rw [if_neg (by simp), if_neg (by simp), if_neg (by simp), if_neg (by simp), if_neg (by simp), if_neg (by simp), if_pos rfl])
end
/-- Bounds, behind j steps. -/
structure Bd (S : St8) (n j : Nat) : Prop where
  n0 : 0 ≤ S.R.d.count
  n1 : S.R.d.count ≤ (j : Int)
  cs : S.R.cs.length ≤ 256
  h : S.R.h.length + S.R.cs.length ≤ 300 * j
  len : S.R.zs.length = n
theorem Bd.fine {S : St8} {n j : Nat} (h : Bd S n j) (hj : j ≤ 60) : Fine S := ⟨h.n0, by have := h.n1; omega, h.cs, by have := h.h; omega⟩
theorem due_full {S : St8} (z : Int) (fl : Bool) (hok : ∀ e ∈ S.R.cs, EvOk e) (sn : Sane S.R.d S.R.zs) : (S.due z fl).R.cs.length ≤ S.R.cs.length ∧ (S.due z fl).R.h.length + (S.due z fl).R.cs.length = S.R.h.length + S.R.cs.length := by
  unfold St8.due dueD
  dsimp only
  split
  · obtain ⟨_, _, _, h4, h5⟩ := dueF_facts S.R.cs S.R.d S.R.zs S.R.h hok sn
    exact ⟨h4, h5⟩
  · exact ⟨Nat.le_refl _, rfl⟩
theorem bd_cmd {S : St8} {n j : Nat} (h : Bd S n j) (z : Int) (fl : Bool) (hok : ∀ e ∈ S.R.cs, EvOk e) (sn : Sane S.R.d S.R.zs) {O : OutR} (hO : Keep7 (S.due z fl).R.d (S.due z fl).R.zs O) (M : Mk) : Bd ((S.due z fl).put O M) n (j + 1) := by
  obtain ⟨f1, f2, f3⟩ := due_facts z fl hok sn
  obtain ⟨f4, f5⟩ := due_full z fl hok sn
  obtain ⟨k1, k2, k3⟩ := hO
  have := h.n0; have := h.n1; have := h.cs; have := h.h
  exact ⟨by show 0 ≤ O.d.count; omega, by show O.d.count ≤ _; omega, by show (S.due z fl).R.cs.length ≤ 256; omega, by show (S.due z fl).R.h.length + (S.due z fl).R.cs.length ≤ _; omega, by show O.zs.length = n; rw [k1, f3]; exact h.len⟩
theorem plL_grow (e : EvR) (es : List EvR) : (plL e es).length ≤ es.length + 1 := by
  unfold plL
  split
  · unfold plI
    obtain ⟨h2, h3⟩ := plS_len e es
    split
    · exact h2
    · rename_i h4
      have := h3 (by simpa using h4)
      rw [List.length_append]; simp; omega
  · omega
theorem bd_pl {S : St8} {n j m : Nat} (h : Bd S n j) (e : EvR) (k : Nat) (hk : k ≤ 300) : 0 ≤ (S.plN e k).R.d.count ∧ (S.plN e k).R.d.count = S.R.d.count ∧ (S.plN e k).R.cs.length ≤ 256 ∧ (S.plN e k).R.h.length + (S.plN e k).R.cs.length ≤ 300 * j + k ∧ (S.plN e k).R.zs = S.R.zs := by
  induction k with
  | zero => exact ⟨h.n0, rfl, h.cs, h.h, rfl⟩
  | succ k ih =>
    obtain ⟨i1, i2, i3, i4, i5⟩ := ih (by omega)
    have hg := plL_grow e (S.plN e k).R.cs
    refine ⟨i1, i2, plL_len i3, ?_, i5⟩
    show (S.plN e k).R.h.length + (plL e (S.plN e k).R.cs).length ≤ _
    omega
theorem Bd.next {S : St8} {n j : Nat} (h : Bd S n j) (o : Op8) (hok : ∀ e ∈ S.R.cs, EvOk e) (sn : Sane S.R.d S.R.zs) : Bd (st8 S o) n (j + 1) := by
  have up : Bd S n (j + 1) := ⟨h.n0, by have := h.n1; omega, h.cs, by have := h.h; omega, h.len⟩
  unfold st8
  split
  · exact bd_cmd h _ _ hok sn (apK _ _ _ _) _
  · split
    · exact bd_cmd h _ _ hok sn (rdK _ _ _ _) _
    · split
      · exact bd_cmd h _ _ hok sn (rsK _ _ _) _
      · split
        · exact bd_cmd h _ _ hok sn (fnK _ _ _) _
        · split
          · exact bd_cmd h _ _ hok sn (flK _ _) _
          · split
            · obtain ⟨k1, k2, k3⟩ := rvK S.R.d S.R.zs o.ks
              have := h.n0; have := h.n1; have := h.h
              exact ⟨by show 0 ≤ (rvSp S.R.d S.R.zs o.ks).d.count; omega, by show (rvSp S.R.d S.R.zs o.ks).d.count ≤ _; omega, h.cs, by show S.R.h.length + S.R.cs.length ≤ _; omega, by show (rvSp S.R.d S.R.zs o.ks).zs.length = n; rw [k1]; exact h.len⟩
            · split
              · obtain ⟨i1, i2, i3, i4, i5⟩ := bd_pl (m := 0) h o.e 1 (by omega)
                have := h.n1
                exact ⟨i1, by show (S.plN o.e 1).R.d.count ≤ _; rw [i2]; omega, i3, by show (S.plN o.e 1).R.h.length + (S.plN o.e 1).R.cs.length ≤ _; omega, by show (S.plN o.e 1).R.zs.length = n; rw [i5]; exact h.len⟩
              · split
                · obtain ⟨i1, i2, i3, i4, i5⟩ := bd_pl (m := 0) h o.e (max (min o.off 300) 0).toNat (by omega)
                  have := h.n1
                  exact ⟨i1, by rw [i2]; omega, i3, by omega, by rw [i5]; exact h.len⟩
                · exact up
/-- Zones that failed stay failed. -/
structure FM (zs zs' : List ZsR) : Prop where
  each : ∀ (i : Nat) z, zs[i]? = some z → ∃ z', zs'[i]? = some z' ∧ (z.failed ≤ 0 ∨ z.failed ≤ z'.failed)
theorem FM.refl (zs : List ZsR) : FM zs zs := ⟨fun i z h => ⟨z, h, .inr (Int.le_refl _)⟩⟩
theorem FM.trans {a b c : List ZsR} (h : FM a b) (k : FM b c) : FM a c := ⟨fun i z hz => by
  obtain ⟨z1, h1, h2⟩ := h.each i z hz
  obtain ⟨z2, h3, h4⟩ := k.each i z1 h1
  exact ⟨z2, h3, by omega⟩⟩
theorem FM.set {zs : List ZsR} (k : Nat) {z' : ZsR} (h : ∀ z, zs[k]? = some z → z.failed ≤ 0 ∨ z.failed ≤ z'.failed) : FM zs (zs.set k z') := ⟨fun i z hz => by
  by_cases e : k = i
  · subst e
    exact ⟨z', List.getElem?_set_self (List.getElem?_eq_some_iff.1 hz).1, h z hz⟩
  · exact ⟨z, by rw [List.getElem?_set_ne e]; exact hz, .inr (Int.le_refl _)⟩⟩
theorem FM.idx {zs : List ZsR} (f : Nat → ZsR → ZsR) (h : ∀ i z, (f i z).failed = z.failed) : FM zs (zs.mapIdx f) := ⟨fun i z hz => ⟨f i z, by rw [List.getElem?_mapIdx, hz]; rfl, .inr (by rw [h]; exact Int.le_refl _)⟩⟩
section
variable {d : DvR} {zs : List ZsR}
theorem zsatN {i : Int} {z : ZsR} (hz : zs[i.toNat]? = some z) : zsat zs i = z := by unfold zsat; rw [List.getD_eq_getElem?_getD, hz]; rfl
theorem fm_ap (i : Int) (s : List Nat) : FM zs (apSp d zs i s).zs := by
  unfold apSp
  split
  · exact FM.refl _
  · split
    · exact FM.refl _
    · refine FM.set _ (fun z hz => .inr ?_)
      rw [zsatN hz]
      unfold apSS; split <;> exact Int.le_refl _
theorem fm_rd (i off : Int) : FM zs (rdSp d zs i off).zs := by rw [rdSp_zs]; exact FM.refl _
theorem fm_rs (i : Int) (sn : Sane d zs) : FM zs (rsSp d zs i).zs := by
  unfold rsSp
  split
  · exact FM.refl _
  · refine FM.set _ (fun z hz => ?_)
    rw [zsatN hz]
    unfold rsS
    split
    · rename_i h
      have := (refS_zero (sane_at sn hz).1).1 h
      exact .inl (by omega)
    · exact .inr (Int.le_refl _)
theorem fm_fn (i : Int) : FM zs (fnSp d zs i).zs := by
  unfold fnSp
  split
  · exact FM.refl _
  · refine FM.set _ (fun z hz => .inr ?_)
    rw [zsatN hz]
    unfold fnS; split <;> exact Int.le_refl _
theorem fm_fl : FM zs (flSp d zs).zs := by
  unfold flSp
  split
  · exact FM.refl _
  · exact FM.idx _ (fun _ _ => rfl)
theorem fm_rv (ks : List Int) : FM zs (rvSp d zs ks).zs := by
  unfold rvSp
  split
  · exact FM.idx _ (fun _ _ => rfl)
  · exact FM.refl _
theorem fm_fa (i st : Int) (sn : Sane d zs) : FM zs (faSp d zs i st).zs := by
  unfold faSp
  split
  · refine FM.set _ (fun z hz => ?_)
    rw [zsatN hz]
    have hf := (sane_at sn hz).1.failed
    unfold faS
    split
    · rename_i h
      right
      show z.failed ≤ st
      omega
    · exact .inr (Int.le_refl _)
  · exact FM.refl _
theorem fm_sp (i off : Int) (p : List Nat) : FM zs (spSp d zs i off p).zs := by
  unfold spSp
  split
  · refine FM.set _ (fun z hz => .inr ?_)
    rw [zsatN hz]
    unfold chS7; split <;> exact Int.le_refl _
  · exact FM.refl _
theorem fm_hap (e : EvR) (sn : Sane d zs) : FM zs (hapSp d zs e).zs := by
  unfold hapSp
  split
  · exact fm_sp _ _ _
  · split
    · exact fm_fa _ _ sn
    · split
      · exact fm_fa _ _ sn
      · split <;> exact FM.refl _
end
theorem fm_due : ∀ (cs : List EvR) (d : DvR) (zs : List ZsR) (h : List EvR), (∀ e ∈ cs, EvOk e) → Sane d zs → FM zs (dueF d zs cs h).zs
  | [], _, _, _, _, _ => FM.refl _
  | e :: cs, d, zs, h, hok, sn => by
    by_cases hg : d.down = false ∧ e.at_ ≤ d.count
    · rw [dueF_go hg.1 hg.2]
      exact (fm_hap e sn).trans (fm_due cs _ _ _ (fun x hx => hok x (by simp [hx])) (hapSp_sane sn (hok e (by simp))))
    · have hE : dueF d zs (e :: cs) h = ⟨d, zs, e :: cs, h⟩ := by rw [dueF, if_neg hg]
      rw [hE]
      exact FM.refl _
theorem fm_dueD {S : St8} (z : Int) (fl : Bool) (hok : ∀ e ∈ S.R.cs, EvOk e) (sn : Sane S.R.d S.R.zs) : FM S.R.zs (S.due z fl).R.zs := by
  unfold St8.due dueD
  dsimp only
  split
  · exact fm_due _ _ _ _ hok sn
  · exact FM.refl _
theorem plN_zs (S : St8) (e : EvR) (k : Nat) : (S.plN e k).R.zs = S.R.zs := by
  induction k with
  | zero => rfl
  | succ k ih => exact ih
theorem FM.step {S : St8} (o : Op8) (hok : ∀ e ∈ S.R.cs, EvOk e) (sn : Sane S.R.d S.R.zs) : FM S.R.zs (st8 S o).R.zs := by
  have hd := fun z fl => fm_dueD (S := S) z fl hok sn
  have hs := fun z fl => (due_facts (S := S) z fl hok sn).1
  unfold st8
  split
  · exact (hd _ _).trans (fm_ap _ _)
  · split
    · exact (hd _ _).trans (fm_rd _ _)
    · split
      · exact (hd _ _).trans (fm_rs _ (hs _ _))
      · split
        · exact (hd _ _).trans (fm_fn _)
        · split
          · exact (hd _ _).trans fm_fl
          · split
            · exact fm_rv _
            · split
              · exact FM.refl _
              · split
                · rw [plN_zs]; exact FM.refl _
                · exact FM.refl _
theorem FM.state {zs zs' : List ZsR} (h : FM zs zs') {i : Nat} {z z' : ZsR} (hz : zs[i]? = some z) (hz' : zs'[i]? = some z') (hok : ZsOk z) (h3 : 3 ≤ stS z) : stS z ≤ stS z' := by
  obtain ⟨z2, h1, h2⟩ := h.each i z hz
  rw [hz'] at h1
  injection h1 with h1
  subst h1
  rcases stS_cases hok with ⟨a, b, _⟩ | ⟨a, b⟩ | ⟨a, b⟩
  · omega
  · have : z'.failed ≠ 0 := by omega
    rw [stS_yes this, b]; omega
  · have : z'.failed ≠ 0 := by omega
    rw [stS_yes this, b]; omega

end Go.Proofs.Ytajkajgnjcnolaa

/-
  Layer 8 (plan): what a law's loop keeps.
-/
namespace Go.Proofs.Ytajkajgnjcnolaa
open Go.RowKit
set_option linter.unusedVariables false
set_option linter.unnecessarySimpa false
set_option linter.unusedSimpArgs false


/-- A drive and the document's, while a law goes on; Y: where the document's lies. -/
structure LvJ (C : Drv) (w : World) (X Y : Nat) (S : St8) (F : Nat → Prop) (vz vc vh : Value) (W : World) : Prop where
  at_ : C.At w.heap.size W X S F
  dc : Dc w.heap.size W vz vc vh S.R
  bY : Blk W Y 30 (d8A (dd7 S.R.d) vz vc vh)
  B : Below w.heap.size w W
  loY : w.heap.size ≤ Y
section
variable {C : Drv} {w W W' : World} {X Y : Nat} {S S' : St8} {F : Nat → Prop} {vz vc vh vz' vc' vh' : Value}
theorem LvJ.below (h : LvJ C w X Y S F vz vc vh W) (hb : Below W.heap.size W W') : LvJ C w X Y S F vz vc vh W' := ⟨C.below h.at_ hb, h.dc.below hb, h.bY.below hb h.bY.lt, h.B.trans (hb.mono h.B.size), h.loY⟩
/-- A write into a block that is none of the drive's and none of the document's. -/
theorem LvJ.keptB {U : TypeId} {cs : Array Value} {g : Nat} (h : LvJ C w X Y S F vz vc vh W) (hg : Blk W g U cs) (hl : w.heap.size ≤ g) (hF : ¬ F g) (h0 : U ≠ 30) (h1 : U ≠ 83) (h2 : U ≠ 87) (h3 : U ≠ 33) (hk : Kept (· = g) W W') : LvJ C w X Y S F vz vc vh W' :=
  ⟨C.kept h.at_ hk (fun i hi e => hF (e ▸ hi)), h.dc.keptB hg h1 h2 h3 hk, h.bY.kept hk (fun e => Blk.unlike hg h.bY h0 e.symm), bkept h.B (Nat.le_refl _) hk (fun i hi e => by omega), h.loY⟩
/-- Behind a step: the drive and the document's are told, the document's is laid in its place. -/
theorem LvJ.next {W2 : World} (h : LvJ C w X Y S F vz vc vh W) (hd : Dc w.heap.size W2 vz' vc' vh' S'.R) (hT : DrTo C w.heap.size W X F S' W2) (hb : Blk W' Y 30 (d8A (dd7 S'.R.d) vz' vc' vh')) (hk : Kept (· = Y) W2 W') :
    ∃ F', LvJ C w X Y S' F' vz' vc' vh' W' ∧ (∀ g t cs, Blk W g t cs → ¬ F g → g ≠ Y → Blk W' g t cs ∧ ¬ F' g) := by
  have hB2 := hT.bel h.at_ h.B (Nat.le_refl _) (Nat.le_refl _)
  obtain ⟨F', k1, k2, k3⟩ := hT
  have hY2 : Blk W2 Y 30 (d8A (dd7 S.R.d) vz vc vh) := h.bY.kept k2 (C.not h.at_ h.bY (by decide))
  refine ⟨F', ⟨C.kept k1 hk (fun i hi e => C.not k1 hY2 (by decide) (e ▸ hi)), hd.keptB hY2 (by decide) (by decide) (by decide) hk, hb, bkept hB2 (Nat.le_refl _) hk (fun i hi e => by have := h.loY; omega), h.loY⟩, fun g t cs hg hF hgY => ⟨(hg.kept k2 hF).kept hk hgY, fun hF' => ?_⟩⟩
  rcases k3 g hF' with h1 | h1
  · exact hF h1
  · have := hg.lt; omega
end
def wiA (xs : List Int) : Array Value := (zvals xs).toArray
theorem wiA_zero (n : Nat) : zerosV n (.int .i64 0) = wiA (List.replicate n 0) := by simp [zerosV, wiA, zvals]
theorem wiA_set (xs : List Int) (q : Nat) (v : Int) : (wiA xs).setIfInBounds q (.int .i64 v) = wiA (xs.set q v) := by unfold wiA; rw [List.setIfInBounds_toArray, zvals_set]
theorem wiA_at {xs : List Int} {q : Nat} {v : Int} (h : xs[q]? = some v) : (wiA xs)[q]? = some (.int .i64 v) := by unfold wiA; rw [List.getElem?_toArray]; simp [zvals, h]
/-- The first q are the new ones. -/
def mixI (A B : List Int) (q : Nat) : List Int := B.take q ++ A.drop q
theorem mixI_zero (A B : List Int) : mixI A B 0 = A := by simp [mixI]
theorem mixI_all {A B : List Int} {n : Nat} (hA : A.length = n) (hB : B.length = n) : mixI A B n = B := by unfold mixI; rw [List.take_of_length_le (by omega), List.drop_of_length_le (by omega), List.append_nil]
theorem mixI_at {A B : List Int} {n q : Nat} (hA : A.length = n) (hB : B.length = n) (hq : q < n) : (mixI A B q)[q]? = A[q]? := by
  unfold mixI
  rw [List.getElem?_append_right (by simp; omega), List.length_take, Nat.min_eq_left (by omega), Nat.sub_self, List.getElem?_drop, Nat.add_zero]
theorem mixI_set {A B : List Int} {n q : Nat} {b : Int} (hA : A.length = n) (hB : B.length = n) (hb : B[q]? = some b) (hq : q < n) : (mixI A B q).set q b = mixI A B (q + 1) := by
  unfold mixI
  have hd : A.drop q = A[q]'(by omega) :: A.drop (q + 1) := List.drop_eq_getElem_cons (by omega)
  rw [List.set_append_right _ _ (by simp; omega), List.length_take, Nat.min_eq_left (by omega), Nat.sub_self, hd, List.set_cons_zero, List.take_add_one, hb]
  simp
theorem stS_new {size : Int} (h : 1 ≤ size) : stS (zs0 size) = 0 := by
  unfold stS zs0
  simp
  omega

end Go.Proofs.Ytajkajgnjcnolaa

/-
  Layer 7 (zdev): All of a zone of sectors, as a range over a function gives it; Look.
-/
namespace Go.Proofs.Ytajkajgnjcnolaa
open Go.RowKit
set_option linter.unusedVariables false
set_option linter.unnecessarySimpa false
set_option linter.unusedSimpArgs false


/-- A sector, whatever is given. -/
def nrm (s : List Nat) : List Nat := if s.length = 64 then s else zeros 64
theorem nrm_of {s : List Nat} (h : s.length = 64) : nrm s = s := if_pos h
theorem nrm_length (s : List Nat) : (nrm s).length = 64 := by
  unfold nrm
  split
  · assumption
  · exact zeros_length 64
def encQ (x : Nat × List Nat) : Array Value := #[.int .i64 (x.1 : Int), .agg (bA (nrm x.2))]
def numq (ss : List (List Nat)) (k : Nat) : List (Nat × List Nat) := (List.range k).map (fun i => (i, ss.getD i []))
theorem numq_succ (ss : List (List Nat)) (k : Nat) : numq ss (k + 1) = numq ss k ++ [(k, ss.getD k [])] := by simp [numq, List.range_succ]
theorem numq_length (ss : List (List Nat)) (k : Nat) : (numq ss k).length = k := by simp [numq]
theorem numq_prefix (ss : List (List Nat)) (k n : Nat) (h : k ≤ n) : numq ss k <+: numq ss n := by
  induction n with
  | zero => obtain rfl : k = 0 := by omega
            exact List.prefix_refl _
  | succ n ih =>
    by_cases hk : k = n + 1
    · subst hk; exact List.prefix_refl _
    · rw [numq_succ]
      exact (ih (by omega)).trans (List.prefix_append _ _)
theorem numq_get {ss : List (List Nat)} {n : Nat} {x : Nat × List Nat} {pre : List (Nat × List Nat)} (h : pre ++ [x] <+: numq ss n) : x = (pre.length, ss.getD pre.length []) ∧ pre.length < n := by
  obtain ⟨t, ht⟩ := h
  have h1 : (numq ss n)[pre.length]? = some x := by rw [← ht]; simp
  unfold numq at h1
  rw [List.getElem?_map] at h1
  cases hr : (List.range n)[pre.length]? with
  | none => rw [hr] at h1; cases h1
  | some i =>
    rw [hr] at h1
    obtain ⟨hi, he⟩ := List.getElem?_eq_some_iff.1 hr
    simp at he h1
    refine ⟨?_, by simpa using hi⟩
    rw [← h1, he]
    simp [List.getD]

section
variable {F : Fence} {n : Nat} {P : Program} {w w' : World} {ops : Array Oper} {rest : List Oper} {o : Oper} {a : Act} {Q : Exit → Act → World → Prop}
theorem wplIn_value (hg : o.guard = none) (v : Value) (hab : o.about P w a.eval = none) (hnd : ∀ c, o.op ≠ .defer c) (hrun : (execOp a.eval o).run P w = .ok (.value v) w') (h : wpListIn F n P ops Q rest (a.put o.dst v) w') : wpListIn F n P ops Q (o :: rest) a w :=
  wpListIn_plain hg fun K hK => by
    unfold Oper.wpIn
    refine ⟨fun f hf => (by rw [hab] at hf; cases hf), ?_⟩
    rw [Oper.semAt_plain F _ _ hnd, hrun]
    exact hK _ _ h
theorem wplIn_skip (hg : o.guard = none) (hab : o.about P w a.eval = none) (hnd : ∀ c, o.op ≠ .defer c) (hrun : (execOp a.eval o).run P w = .ok .skip w') (h : wpListIn F n P ops Q rest (a.put o.dst undef) w') : wpListIn F n P ops Q (o :: rest) a w :=
  wpListIn_plain hg fun K hK => by
    unfold Oper.wpIn
    refine ⟨fun f hf => (by rw [hab] at hf; cases hf), ?_⟩
    rw [Oper.semAt_plain F _ _ hnd, hrun]
    exact hK _ _ h
/-- A byte array in the middle of a block is read whole; a block; one is written, that was just made. -/
theorem wplIn_load_b (hg : o.guard = none) (ty : TypeId) (x : Operand) (ho : o.op = .load ty x) (b i : Nat) (hx : a.eval x = .pointer (some ⟨b, i, none⟩)) (s : List Nat) (d : TypeDesc) (hc : w.rangeAt b i (bvals s))
    (hu : P.underlying ty = some d) (hd : d.isRow = true) (hi : (P.info? ty).map (·.size) = some (bvals s).length) (h : wpListIn F n P ops Q rest (a.put o.dst (.agg (bA s))) w) : wpListIn F n P ops Q (o :: rest) a w :=
  wplIn_value hg _ (by simp [Oper.about, ho]) (by rw [ho]; intro c h; cases h) (exec_load_b ty x ho b i hx s d hc hu hd hi) h
theorem wplIn_load (hg : o.guard = none) {ty : TypeId} (x : Operand) (ho : o.op = .load ty x) (g : Nat) (hx : a.eval x = .pointer (some ⟨g, 0, none⟩)) (t : TypeId) (cs : Array Value) (d : TypeDesc) (hb : Blk w g t cs)
    (hu : P.underlying ty = some d) (hd : (match d with | .struct _ | .array _ _ => true | _ => false) = true) (hi : (P.info? ty).map (·.size) = some cs.size)
    (h : wpListIn F n P ops Q rest (a.put o.dst (.agg cs)) w) : wpListIn F n P ops Q (o :: rest) a w :=
  wplIn_value hg _ (by simp [Oper.about, ho]) (by rw [ho]; intro c h; cases h) (exec_load x ho g hx hb hu hd hi) h
theorem wplIn_store_new (hg : o.guard = none) {ty : TypeId} (x y : Operand) (ho : o.op = .store ty x y) (cs : Array Value) (w0 : World) (t : TypeId) (old : Array Value) (hw : w = w0.alloc (.cells old t)) (hx : a.eval x = .pointer (some ⟨w0.heap.size, 0, none⟩)) (hy : a.eval y = .agg cs)
    (hi : (P.info? ty).map (·.size) = some cs.size) (hold : old.size = cs.size) (h1 : cs.all (·.oneCell') = true)
    (h : wpListIn F n P ops Q rest (a.put o.dst undef) (w0.alloc (.cells cs t))) : wpListIn F n P ops Q (o :: rest) a w := by
  subst hw
  refine wplIn_skip hg (by simp [Oper.about, ho]) (by rw [ho]; intro c h; cases h) ?_ h
  unfold execOp
  simp only [ho, hx, hy, Instr.storeAt, Instr.sureAddr, Sem.run_bind, Sem.run_pure, Result.andThen_ok, run_storeVar_row _ w0.heap.size t ty old cs (heap_alloc_new w0 _) hi hold h1]
  rw [setRow_new]
end

theorem zallF {A : Nat} (w : World) :
    Calls Try.prog 45 #[.pointer (some ⟨A, 0, none⟩)] w fun e w' => e = .returned (.func (.func 68) #[] #[.pointer (some ⟨w.heap.size, 0, none⟩)]) ∧ w' = w.alloc (Obj.cells #[.pointer (some ⟨A, 0, none⟩)] 93) := by
  go_enter Try.func45, Try.ntmps45
  go_wp2_with fail
  go_ret
  exact ⟨rfl, rfl⟩

section
variable {lo A Bp : Nat} {v : Value} {z : ZsR}

set_option maxRecDepth 100000 in
set_option maxHeartbeats 1000000 in
theorem allF_none (n : Nat) (hn : 1 ≤ n) (l : Nat) (J Jx : List (Nat × List Nat) → World → Prop) (W : World) (hz : ZsAt 114 34 lo W A v z) (h00 : z.ss.length = 0) (hB : W.cell? ⟨Bp, 0, none⟩ = some (.pointer (some ⟨A, 0, none⟩))) (h0 : J [] W) :
    CallsIn Fence.wide n Try.prog 68 #[.func (.yield l) #[] #[], .pointer (some ⟨Bp, 0, none⟩)] W fun e W' => (∃ v, e = .returned v) ∧ J [] W' := by
  obtain ⟨a, cap, rfl, hc1, hc2⟩ := hz.slice
  rw [h00] at *
  have c1 : W.cell? ⟨A, 1, none⟩ = some (.slice a 0 cap) := (hz.blk.cell 1).trans (by rw [← h00]; rfl)
  clear hz h00
  refine callsIn_of_wp Try.func68 rfl trivial ?_ rfl
  simp only [Try.ntmps68, List.size_toArray, List.length_cons, List.length_nil, Nat.reduceAdd, Nat.reduceSub, Array.replicate_succ, Array.replicate_zero, List.push_toArray, List.append_toArray, List.nil_append, List.cons_append]
  gi_wp2
  gi_loopw [10] (fun i wr => i = .int .i64 0 ∧ J [] wr) (fun _ _ => 0)
  case atStart => exact ⟨rfl, h0⟩
  case round =>
    obtain ⟨rfl, hJs⟩ := hrel
    gi_wp2
    go_end0
    exact ⟨⟨_, rfl⟩, hJs⟩

set_option maxRecDepth 100000 in
set_option maxHeartbeats 2000000 in
theorem allF_some (n : Nat) (hn : 1 ≤ n) (l : Nat) (J Jx : List (Nat × List Nat) → World → Prop) (W : World) (hJ : AbidesFrom W.heap.size J) (hz : ZsAt 114 34 lo W A v z) (hok : ZsOk z) (h00 : 0 < z.ss.length)
    (hY : ∀ pre x W1, J pre W1 → pre.length < z.ss.length → YieldAt Fence.wide (n - 1) Try.prog l (encQ x) W1 fun e W' => (e = .returned (.bool true) ∧ J (pre ++ [x]) W' ∧ KpRow v W1 W') ∨ (e = .returned (.bool false) ∧ Jx (pre ++ [x]) W'))
    (hB : W.cell? ⟨Bp, 0, none⟩ = some (.pointer (some ⟨A, 0, none⟩))) (h0 : J [] W) :
    CallsIn Fence.wide n Try.prog 68 #[.func (.yield l) #[] #[], .pointer (some ⟨Bp, 0, none⟩)] W fun e W' => (∃ v, e = .returned v) ∧ ((∃ ys, ys = numq z.ss z.ss.length ∧ J ys W') ∨ (∃ pre, pre <+: numq z.ss z.ss.length ∧ Jx pre W')) := by
  obtain ⟨a, cap, rfl, hc1, hc2⟩ := hz.slice
  have hl : z.ss.length ≤ 64 := by have := hok.len; have := hok.size.2; omega
  have Hz := Lib.hid hz
  obtain ⟨g, rfl, _, hgl⟩ := ownK_form hz.own h00
  have c1 : W.cell? ⟨A, 1, none⟩ = some (.slice (some ⟨g, 0, none⟩) z.ss.length cap) := (hz.blk.cell 1).trans rfl
  unfold maxLen at hc2
  have HY := Lib.hid hY
  have HJ := Lib.hid hJ
  have H64 := Lib.hid hok.w64
  have hz64 := zero_secF
  clear hz hY hJ hok
  refine callsIn_of_wp Try.func68 rfl trivial ?_ rfl
  simp only [Try.ntmps68, List.size_toArray, List.length_cons, List.length_nil, Nat.reduceAdd, Nat.reduceSub, Array.replicate_succ, Array.replicate_zero, List.push_toArray, List.append_toArray, List.nil_append, List.cons_append]
  gi_wp2
  gi_loopw [10] (fun i wr => ∃ k : Nat, k ≤ z.ss.length ∧ i = .int .i64 k ∧ J (numq z.ss k) wr ∧ KpRow (.slice (some ⟨g, 0, none⟩) z.ss.length cap) W wr) (fun i _ => z.ss.length - (intOf i).toNat)
  case atStart => exact ⟨0, Nat.zero_le _, rfl, h0, KpRow.refl _ _⟩
  case round =>
    obtain ⟨k, hk, rfl, hJk, hK⟩ := hrel
    by_cases hlt : k < z.ss.length
    · have hown := ownK_same Hz.out.own hK
      have hrg := own_range hown rfl H64.out k hlt
      have h6 := getD_64 H64.out k hlt
      have hglr := own_lt hown (g := g) rfl
      have He := Lib.hid (numq_succ z.ss k)
      have HJ2 : Hid (J (numq z.ss k) (wr.alloc (Obj.cells (bA (z.ss.getD k [])) 34))) := Lib.hid (HJ.out _ _ _ none hJk (World.grownBy_alloc wr _ none) (fun r e => by cases e))
      have HK := Lib.hid (hK.trans (fun g' hg' => Below.heap_alloc wr (Obj.cells (bA (z.ss.getD k [])) 34) g' (own_lt hown hg')))
      obtain ⟨fn, tmps, assign, body, hy, hR⟩ := HY.out _ (k, z.ss.getD k []) _ HJ2.out (by rw [numq_length]; exact hlt)
      unfold encQ at hy
      dsimp only at hy
      rw [nrm_of h6] at hy
      generalize z.ss.getD k [] = X at *
      have HX := Lib.hid (Blk.new wr 34 (bA X))
      have Hrg := Lib.hid hrg
      have H6 := Lib.hid h6
      clear hK hown hrg h6 hJk hglr
      gi_wp2_with (first | (refine wplIn_load_b rfl _ _ rfl g (k * 64) rfl X _ Hrg.out Try.underlying34 rfl (by rw [bvals_length]; exact (info_sec H6.out).trans (by rw [bA_size])) ?_; go_frame) | (refine wplIn_store_new rfl _ _ rfl (bA X) wr 34 (bA (zeros 64)) rfl rfl rfl (info_sec H6.out) (by rw [bA_size, bA_size, zeros_length, H6.out]) (bA_one _) ?_; go_frame) | (refine wplIn_load rfl _ rfl (wr.heap.size) rfl _ _ _ (HX.out) Try.underlying34 rfl (info_sec H6.out) ?_; go_frame))
      refine hR.mono ?_
      rintro e W3 (⟨rfl, hJ3, hk3⟩ | ⟨rfl, hJx3⟩)
      · gi_wp2
        go_roundw
        case rel => exact ⟨k + 1, by omega, by go_num, by rw [He.out]; exact hJ3, HK.out.trans hk3⟩
        case measure => simp [intOf]; omega
      · gi_wp2
        refine bodyPost_ret (results_none rfl _ _ _) rfl ?_
        exact ⟨⟨_, rfl⟩, .inr ⟨_, by rw [← He.out]; exact numq_prefix _ _ _ (by omega), hJx3⟩⟩
    · obtain rfl : k = z.ss.length := by omega
      gi_wp2
      go_end0
      exact ⟨⟨_, rfl⟩, .inl ⟨_, rfl, hJk⟩⟩

theorem allF_gives (n : Nat) (hn : 1 ≤ n) (w : World) (hz : ZsAt 114 34 lo w A v z) (hok : ZsOk z) (hB : Blk w Bp 93 #[.pointer (some ⟨A, 0, none⟩)]) :
    SeqStopsK Fence.wide n Try.prog 68 #[.pointer (some ⟨Bp, 0, none⟩)] encQ (KpRow v) (fun ys => ys = numq z.ss z.ss.length) (fun pre => pre <+: numq z.ss z.ss.length) z.ss.length w := by
  intro l J Jx W hW hJ _ hY h0
  have hz' := hz.below hW
  have hB' := ((hB.below hW hB.lt).cell 0).trans (rfl : (#[Value.pointer (some ⟨A, 0, none⟩)] : Array Value)[0]? = some (.pointer (some ⟨A, 0, none⟩)))
  by_cases h00 : z.ss.length = 0
  · refine (allF_none n hn l J Jx W hz' h00 hB' h0).mono ?_
    rintro e W' ⟨he, hJ⟩
    refine ⟨he, .inl ⟨[], ?_, hJ⟩⟩
    rw [h00]; rfl
  · exact allF_some n hn l J Jx W hJ hz' hok (by omega) hY hB' h0

/-- Look of a zone that isn't there. -/
theorem lookF_gives (n : Nat) (w : World) : SeqStopsK Fence.wide n Try.prog 44 #[] encQ (fun _ _ => True) (fun ys => ys = []) (fun pre => pre = []) 0 w := by
  intro l J Jx W hW hJ _ hY h0
  refine callsIn_of_wp Try.func44 rfl trivial ?_ rfl
  simp only [Try.ntmps44, List.size_toArray, List.length_cons, List.length_nil, Nat.reduceAdd, Nat.reduceSub, Array.replicate_succ, Array.replicate_zero, List.push_toArray, List.append_toArray, List.nil_append, List.cons_append]
  gi_wp2
  go_end0
  exact ⟨⟨_, rfl⟩, .inl h0⟩
end

set_option maxRecDepth 100000 in
set_option maxHeartbeats 2000000 in
theorem dlk_no {lo D : Nat} {w : World} {vz : Value} {d : DvR} {l : List ZcR} (z : Int) (h : DvAt lo w D vz d l) (hh : dhB l.length z = false) : Calls Try.prog 14 #[.pointer (some ⟨D, 0, none⟩), .int .i64 z] w fun e w' => e = .returned (.func (.func 44) #[] #[]) ∧ w = w' := by
  have Hh := Lib.hid hh
  have H := Lib.hid h
  clear h hh
  go_enter Try.func14, Try.ntmps14
  go_wp2_with fail
  refine (dhol z H.out).mono ?_
  rintro e w1 ⟨rfl, rfl⟩
  rw [Hh.out]
  go_wp2_with fail
  go_ret
  exact ⟨rfl, rfl⟩

set_option maxRecDepth 100000 in
set_option maxHeartbeats 2000000 in
theorem dlk_ok {lo D : Nat} {w : World} {vz : Value} {d : DvR} {l : List ZcR} {k : Nat} {c : ZcR} (h : DvAt lo w D vz d l) (hc : l[k]? = some c) : Calls Try.prog 14 #[.pointer (some ⟨D, 0, none⟩), .int .i64 (k : Nat)] w fun e w' => e = .returned (.func (.func 68) #[] #[.pointer (some ⟨w.heap.size, 0, none⟩)]) ∧ w' = w.alloc (Obj.cells #[.pointer (some ⟨c.A, 0, none⟩)] 93) := by
  have hk : k < l.length := (List.getElem?_eq_some_iff.1 hc).1
  have hh : dhB l.length (k : Int) = true := by unfold dhB; simp; omega
  obtain ⟨g, cap, rfl, q1, q2, hg⟩ := h.ptr hc
  unfold maxLen at q2
  have c0 : w.cell? ⟨D, 0, none⟩ = some (.slice (some ⟨g, 0, none⟩) l.length cap) := (h.blk.cell 0).trans rfl
  have Hh := Lib.hid hh
  have H := Lib.hid h
  clear h hh hc
  go_enter Try.func14, Try.ntmps14
  go_wp2_with fail
  refine (dhol (k : Int) H.out).mono ?_
  rintro e w1 ⟨rfl, rfl⟩
  rw [Hh.out]
  go_wp2_with fail
  refine (zallF w).mono ?_
  rintro e w1 ⟨rfl, hw1⟩
  have Hw1 := Lib.hid hw1
  clear hw1 hg c0
  go_wp2_with fail
  go_ret
  exact ⟨rfl, Hw1.out⟩

end Go.Proofs.Ytajkajgnjcnolaa

/-
  A drawn region that only reads, walked operation by operation at one world; also within a range over a function's round. No Go text here.
-/
namespace Go.Proofs.Ytajkajgnjcnolaa
open Go.RowKit
set_option linter.unusedVariables false
set_option linter.unusedSimpArgs false

section
variable {P : Program} {md : Region.Mode} {ops : Array Oper} {Qn : Act → Prop} {w0 : World}
/-- In state a, at world w0, o leaves v and does nothing else. -/
def YieldsR (P : Program) (ops : Array Oper) (w0 : World) (o : Oper) (v : Value) (a : Act) : Prop :=
  (∀ c, o.op ≠ .defer c) ∧ ((Region.wanted o (yielded ops a.tmps) = true ∧ (execOp a.eval o).run P w0 = .ok (.value v) w0) ∨ (Region.wanted o (yielded ops a.tmps) = false ∧ v = undef))
/-- Whatever order is picked, each operation only reads. -/
def RdAny (P : Program) (md : Region.Mode) (ops : Array Oper) (Qn : Act → Prop) (w0 : World) : Nat → Array Bool → Act → Prop
  | 0, listed, a => Region.ready md ops listed = [] ∧ Qn a
  | fuel + 1, listed, a => (Region.ready md ops listed = [] → Qn a) ∧ ∀ i ∈ Region.ready md ops listed, ∃ o v, ops[i]? = some o ∧ YieldsR P ops w0 o v a ∧ RdAny P md ops Qn w0 fuel (listed.setIfInBounds i true) (a.put o.dst v)
theorem YieldsR.putR {oi oj : Oper} {v u : Value} {a : Act} (hap : oi.apart ops oj = true) (hsj : ∀ cs b, oj.op ≠ .select cs b) : YieldsR P ops w0 oj u (a.put oi.dst v) ↔ YieldsR P ops w0 oj u a := by
  obtain ⟨h1, h2, h3⟩ := Oper.apart_spec hap
  unfold YieldsR
  rw [execOp_put oj hsj a oi.dst v h1, wanted_put oj a oi.dst v h1]
theorem YieldsR.keep {oi oj : Oper} {v u : Value} {a : Act} (hap : oi.apart ops oj = true) (hsi : ∀ cs b, oi.op ≠ .select cs b) (h : YieldsR P ops w0 oi v a) : YieldsR P ops w0 oi v (a.put oj.dst u) := by
  obtain ⟨h1, h2, h3⟩ := Oper.apart_spec hap
  unfold YieldsR at *
  rw [execOp_put oi hsi a oj.dst u h3, wanted_put oi a oj.dst u h3]
  exact h
theorem RdAny.first {i : Nat} {oi : Oper} {v : Value} (hi : ops[i]? = some oi) (hsel : ∀ (j : Nat) (o : Oper) cs b, ops[j]? = some o → o.op ≠ .select cs b) :
    ∀ (fuel : Nat) (listed : Array Bool) (a : Act),
      (∀ j oj, ops[j]? = some oj → j ≠ i → listed.getD j true = false → (∀ e ∈ oj.after, Region.binds md e = true → e.on ≠ i) → oi.apart ops oj = true) →
      i ∈ Region.ready md ops listed → YieldsR P ops w0 oi v a → RdAny P md ops Qn w0 fuel (listed.setIfInBounds i true) (a.put oi.dst v) → RdAny P md ops Qn w0 (fuel + 1) listed a := by
  intro fuel
  induction fuel with
  | zero =>
    intro listed a _ hr hy H
    refine ⟨fun h => absurd hr (by rw [h]; simp), fun j hj => ?_⟩
    by_cases e : j = i
    · subst e; exact ⟨oi, v, hi, hy, H⟩
    · have := ready_mono hj e
      rw [H.1] at this
      cases this
  | succ fuel ih =>
    intro listed a hfree hr hy H
    refine ⟨fun h => absurd hr (by rw [h]; simp), fun j hj => ?_⟩
    by_cases e : j = i
    · subst e; exact ⟨oi, v, hi, hy, H⟩
    · obtain ⟨oj, u, hoj, hyj, Hj⟩ := H.2 j (ready_mono hj e)
      obtain ⟨hjun, oj', hoj', hall⟩ := mem_ready.1 hj
      obtain rfl : oj = oj' := by rw [hoj] at hoj'; exact Option.some.inj hoj'
      have hno : ∀ d ∈ oj.after, Region.binds md d = true → d.on ≠ i := fun d hd hb heq => by
        have q1 := hall d hd hb
        have q0 := (mem_ready.1 hr).1
        rw [heq] at q1
        rcases Nat.lt_or_ge i listed.size with h' | h'
        · simp [h'] at q0 q1; rw [q0] at q1; cases q1
        · simp [Array.getElem?_eq_none h'] at q1
      have hap := hfree j oj hoj e hjun hno
      obtain ⟨_, h2, _⟩ := Oper.apart_spec hap
      refine ⟨oj, u, hoj, (YieldsR.putR hap (fun cs b => hsel j oj cs b hoj)).1 hyj, ih _ _ (fun k ok hk hki hun hn => ?_) (ready_mono hr (Ne.symm e)) (YieldsR.keep hap (fun cs b => hsel i oi cs b hi) hy) ?_⟩
      · refine hfree k ok hk hki ?_ hn
        by_cases hjk : j = k
        · subst hjk; exact hjun
        · rw [getD_set_ne true hjk] at hun; exact hun
      · rw [Array.setIfInBounds_comm _ _ e, ← Act.put_comm a v u h2]
        exact Hj
/-- The same, with sides that are looked up. -/
theorem takeR {i d : Nat} {oi : Oper} {v : Value} {fuel : Nat} {listed : Array Bool} {a : Act} (hi : ops[i]? = some oi) (hd : oi.dst = some d)
    (hs : Region.noSelect ops = true) (hf : Region.free md ops listed i = true) (hr : (Region.ready md ops listed).contains i = true) (hnd : ∀ c, oi.op ≠ .defer c)
    (hy : (Region.wanted oi (yielded ops a.tmps) = true ∧ (execOp a.eval oi).run P w0 = .ok (.value v) w0) ∨ (Region.wanted oi (yielded ops a.tmps) = false ∧ v = undef))
    (h : RdAny P md ops Qn w0 fuel (listed.setIfInBounds i true) (a.put (some d) v)) : RdAny P md ops Qn w0 (fuel + 1) listed a :=
  RdAny.first hi (Region.noSelect_spec hs) fuel listed a (Region.free_spec hi hf) (by simpa using hr) ⟨hnd, hy⟩ (by rw [hd]; exact h)
theorem RdAny.done {listed : Array Bool} {a : Act} (hr : Region.ready md ops listed = []) (h : Qn a) : ∀ fuel, RdAny P md ops Qn w0 fuel listed a
  | 0 => ⟨hr, h⟩
  | _ + 1 => ⟨fun _ => h, by rw [hr]; simp⟩
/-- It holds within a fence that asks nothing. -/
theorem RdAny.toIn {F : Fence} {n : Nat} {Q : Exit → Act → World → Prop} (hF : ∀ f, F.fn f) (hQ : ∀ a, Qn a → Q .normal a w0) : ∀ (fuel : Nat) (listed : Array Bool) (a : Act), RdAny P md ops Qn w0 fuel listed a → wpAnyIn F n P md ops Q fuel listed a w0
  | 0, _, a, h => ⟨h.1, hQ a h.2⟩
  | fuel + 1, listed, a, h => ⟨fun e => hQ a (h.1 e), fun i hi => by
      obtain ⟨o, v, ho, ⟨hnd, hy⟩, H⟩ := h.2 i hi
      have ih := RdAny.toIn (n := n) hF hQ fuel _ _ H
      unfold wpOpIn
      simp only [ho]
      rcases hy with ⟨hw, hrun⟩ | ⟨hw, rfl⟩
      · rw [if_pos hw]
        unfold Oper.wpIn
        refine ⟨fun f _ => hF f, ?_⟩
        rw [Oper.semAt_plain F _ _ hnd, hrun]
        exact ih
      · rw [if_neg (by rw [hw]; decide)]
        exact ⟨fun f _ => hF f, ih⟩⟩
/-- The beginning. -/
theorem wpIn_region_reads {F : Fence} {n id : Nat} {Q : Exit → Act → World → Prop} {a : Act} {w : World} (hm : P.follows .mixedOrders = true) (hF : ∀ f, F.fn f)
    (h : RdAny P .any ops (fun a' => Q .normal a' w.drew) w.drew ops.size (Array.replicate ops.size false) a) : (Code.region id ops true).wpIn F n P Q a w :=
  wpIn_region_any hm (RdAny.toIn hF (fun _ h => h) _ _ _ h)
end

/-- A range over an iterator, whose rounds each lay their last loop variable anew in a block. -/
theorem wp_rangeB {α : Type} {P : Program} {g : Operand} {ps : Array Tmp} {assign body : Code} {Q : Exit → Act → World → Prop} {a : Act} {w : World} {gf : Nat} {lb : Array Value} {encs : α → Array Value} {Kp : World → World → Prop} {S Sp : List α → Prop} {N : Nat}
    (hg : a.eval g = .func (.func gf) #[] lb) (eg : ∀ args w, (callFunc gf args).run P w = .ok (.enter gf args) w) {w0 : World} (hseq : SeqStopsK Fence.wide 7 P gf lb encs Kp S Sp N w0)
    (hKt : ∀ {A B C : World}, Kp A B → Kp B C → Kp A C) (hKb : ∀ (W : World) (l : Nat) (o o' : Obj), w.heap.size ≤ l → W.heap[l]? = some o → o.isCells = false → o.isWalk = false → Kp W (W.putObj l o')) (hb0 : Below w0.heap.size w0 w) (hps : ∀ x, (encs x).size = ps.size)
    (I : List α → World → Prop) (Ix : Code → List α → World → Prop) (hI : OwnFrom w.heap.size I) (hIx : ∀ c, OwnFrom w.heap.size (Ix c)) (h0 : I [] w) (T : TypeId) (box : α → Array Value) (a₁ : α → Nat → Act)
    (hKa : ∀ (pre : List α) (x : α) (W : World), I pre W → Kp W (W.alloc (.cells (box x) T)))
    (hassign : ∀ (l : Nat) (pre : List α) (x : α) (W : World) (K : Act → World → Prop), I pre W → K (a₁ x W.heap.size) (W.alloc (.cells (box x) T)) →
      assign.wpIn (Fence.wide.inRound l) 6 P (Exit.then K (fun _ _ _ => False)) { tmps := (ps.zip (encs x)).foldl (fun t (p, v) => t.setIfInBounds p v) a.tmps, defers := [] } W)
    (hbody : ∀ (l : Nat) (pre : List α) (x : α) (b : Nat) (W : World), I pre W → Blk W b T (box x) → pre.length < N → body.wpIn (Fence.wide.inRound l) 6 P (ownPostG w.heap.size Kp I Ix (pre ++ [x]) W) (a₁ x b) W)
    (hdone : ∀ (D : Nat) (ys : List α) (W : World), w.heap.size ≤ D → S ys → I ys W → W.heap[D]? = some (.deferred (some [])) → Q .normal { a with defers := { target := .collected D, args := #[] } :: a.defers } W)
    (hstop : ∀ (D : Nat) (c : Code) (pre : List α) (W : World), w.heap.size ≤ D → Sp pre → Ix c pre W → W.heap[D]? = some (.deferred (some [])) → c.wp P Q { a with defers := { target := .collected D, args := #[] } :: a.defers } W) :
    (Code.rangeFunc g ps assign body).wp P Q a w :=
  wpIn_wide.1 (wpIn_rangeFunc_ownH (n := 8) rfl (by decide) hg trivial eg hseq (fun h k => hKt h k) hKb hb0 hps I Ix hI hIx h0 (fun x a' W => ∃ b, Blk W b T (box x) ∧ a' = a₁ x b)
    (fun x a' s X Y row ⟨b, hb, e⟩ hg' hr => ⟨b, Own.from (blk_own (β := Unit) b T (fun _ => box x)) _ s X Y row hb hg' hr, e⟩)
    (fun l pre x W K hi hK => hassign l pre x W K hi (hK _ _ ((KeepsOthers.alloc _ _).from _) (hKa pre x W hi) (hI.alloc _ hi) ⟨_, Blk.new _ _ _, rfl⟩))
    (fun l pre x a' W _ _ hi ⟨b, hb, e⟩ hlt => by subst e; exact hbody l pre x b W hi hb hlt)
    hdone (fun D c pre W hD hp hi hk => wpIn_wide.2 (hstop D c pre W hD hp hi hk)))

end Go.Proofs.Ytajkajgnjcnolaa

