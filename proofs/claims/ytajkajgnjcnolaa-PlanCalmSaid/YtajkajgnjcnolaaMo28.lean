import Derived.Test.YtajkajgnjcnolaaMo26
import Derived.Test.YtajkajgnjcnolaaMo27
import Derived.DeepKeys4
import Derived.Maps.Keyed
namespace Go.Proofs.Ytajkajgnjcnolaa
open Go.RowKit
set_option linter.unusedVariables false
set_option linter.unnecessarySimpa false
set_option linter.unusedSimpArgs false
def ins (e : EvR) : List EvR → List EvR
  | [] => [e]
  | x :: l => if e.at_ < x.at_ then e :: x :: l else x :: ins e l
theorem pl_done (e : EvR) (l acc : List EvR) : l.foldl (plStep e) (acc, true) = (acc ++ l, true) := by
  induction l generalizing acc with
  | nil => simp
  | cons x l ih =>
    have h : plStep e (acc, true) x = (acc ++ [x], true) := if_neg (by simp)
    rw [List.foldl_cons, h, ih]
    simp
theorem pl_ins (e : EvR) (l acc : List EvR) : (if (l.foldl (plStep e) (acc, false)).2 = true then (l.foldl (plStep e) (acc, false)).1 else (l.foldl (plStep e) (acc, false)).1 ++ [e]) = acc ++ ins e l := by
  induction l generalizing acc with
  | nil => simp [ins]
  | cons x l ih =>
    rw [List.foldl_cons]
    by_cases hx : e.at_ < x.at_
    · have h : plStep e (acc, false) x = (acc ++ [e] ++ [x], true) := if_pos ⟨rfl, hx⟩
      rw [h, pl_done]
      simp [ins, hx]
    · have h : plStep e (acc, false) x = (acc ++ [x], false) := if_neg (fun h => hx h.2)
      rw [h, ih]
      simp [ins, hx]
theorem plI_ins (e : EvR) (es : List EvR) : plI e es = ins e es := by
  have h := pl_ins e es []
  rw [List.nil_append] at h
  exact h
theorem ins_length (e : EvR) (es : List EvR) : (ins e es).length = es.length + 1 := by
  induction es with
  | nil => rfl
  | cons x l ih => unfold ins; split <;> simp [ih]
theorem ins_mem (e x : EvR) (es : List EvR) : x ∈ ins e es ↔ x = e ∨ x ∈ es := by
  induction es with
  | nil => simp [ins]
  | cons y l ih =>
    unfold ins
    split
    · simp
    · rw [List.mem_cons, ih, List.mem_cons]
      constructor
      · rintro (h | h | h)
        · exact .inr (.inl h)
        · exact .inl h
        · exact .inr (.inr h)
      · rintro (h | h | h)
        · exact .inr (.inl h)
        · exact .inl h
        · exact .inr (.inr h)
def SortE (es : List EvR) : Prop := es.Pairwise (fun a b => a.at_ ≤ b.at_)
theorem ins_sort {e : EvR} {es : List EvR} (h : SortE es) : SortE (ins e es) := by
  unfold SortE at *
  induction es with
  | nil => simp [ins]
  | cons x l ih =>
    obtain ⟨h1, h2⟩ := List.pairwise_cons.1 h
    unfold ins
    by_cases hx : e.at_ < x.at_
    · rw [if_pos hx]
      refine List.pairwise_cons.2 ⟨fun y hy => ?_, h⟩
      rcases List.mem_cons.1 hy with rfl | hy
      · omega
      · have := h1 y hy; omega
    · rw [if_neg hx]
      refine List.pairwise_cons.2 ⟨fun y hy => ?_, ih h2⟩
      rcases (ins_mem _ _ _).1 hy with rfl | hy
      · omega
      · exact h1 y hy
structure OrI (S : St8) (m : Nat) : Prop where
  sort : SortE S.R.cs
  pos : ∀ e ∈ S.R.cs, 0 ≤ e.at_
  hap : ∀ e ∈ S.R.h, e.at_ ≤ S.R.d.count
  num : S.R.h.length + S.R.cs.length = m
theorem dueF_or : ∀ (cs : List EvR) (d : DvR) (zs : List ZsR) (h : List EvR), SortE cs → (∀ e ∈ cs, 0 ≤ e.at_) → (∀ e ∈ h, e.at_ ≤ d.count) →
    SortE (dueF d zs cs h).cs ∧ (∀ e ∈ (dueF d zs cs h).cs, 0 ≤ e.at_) ∧ (∀ e ∈ (dueF d zs cs h).h, e.at_ ≤ (dueF d zs cs h).d.count) ∧ (dueF d zs cs h).h.length + (dueF d zs cs h).cs.length = h.length + cs.length
  | [], d, zs, h, h1, h2, h3 => ⟨h1, h2, h3, rfl⟩
  | e :: cs, d, zs, h, h1, h2, h3 => by
    by_cases hg : d.down = false ∧ e.at_ ≤ d.count
    · rw [dueF_go hg.1 hg.2]
      have hc := (hapSp_count d zs e).1
      obtain ⟨k1, k2, k3, k4⟩ := dueF_or cs (hapSp d zs e).d (hapSp d zs e).zs (h ++ [e]) (List.pairwise_cons.1 h1).2 (fun x hx => h2 x (by simp [hx])) (fun x hx => by
        rw [hc]
        rcases List.mem_append.1 hx with hx | hx
        · exact h3 x hx
        · obtain rfl := List.mem_singleton.1 hx
          exact hg.2)
      exact ⟨k1, k2, k3, by rw [k4]; simp; omega⟩
    · have hE : dueF d zs (e :: cs) h = ⟨d, zs, e :: cs, h⟩ := by rw [dueF, if_neg hg]
      rw [hE]
      exact ⟨h1, h2, h3, rfl⟩
theorem OrI.due {S : St8} {m : Nat} (h : OrI S m) (z : Int) (fl : Bool) : OrI (S.due z fl) m := by
  have hR : (S.due z fl).R = dueD S.R.d S.R.zs S.R.cs S.R.h z fl := rfl
  have key : ∀ R : DuR, (S.due z fl).R = R → SortE R.cs → (∀ e ∈ R.cs, 0 ≤ e.at_) → (∀ e ∈ R.h, e.at_ ≤ R.d.count) → R.h.length + R.cs.length = m → OrI (S.due z fl) m := fun R e a b c d => by
    subst e; exact ⟨a, b, c, d⟩
  unfold dueD at hR
  split at hR
  · obtain ⟨k1, k2, k3, k4⟩ := dueF_or S.R.cs S.R.d S.R.zs S.R.h h.sort h.pos h.hap
    exact key _ hR k1 k2 k3 (k4.trans h.num)
  · exact key _ hR h.sort h.pos h.hap h.num
theorem OrI.put {S : St8} {m : Nat} (h : OrI S m) {O : OutR} (hO : Keep7 S.R.d S.R.zs O) (M : Mk) : OrI (S.put O M) m :=
  ⟨h.sort, h.pos, fun e he => Int.le_trans (h.hap e he) hO.2.1, h.num⟩
def evRight (e : EvR) : Bool := decide (0 ≤ e.at_) && (decide (1 ≤ e.kind) && decide (e.kind ≤ 4))
theorem OrI.pl {S : St8} {m : Nat} (h : OrI S m) (e : EvR) (hc : S.R.cs.length < 256) : OrI (S.pl e) (if evRight e = true then m + 1 else m) := by
  by_cases hr : evRight e = true
  · rw [if_pos hr]
    have hr' : 0 ≤ e.at_ ∧ 1 ≤ e.kind ∧ e.kind ≤ 4 := by unfold evRight at hr; simpa using hr
    have hE : plE e S.R.cs = 0 := by unfold plE; rw [if_neg (by omega), if_neg (by omega)]
    have hL : plL e S.R.cs = ins e S.R.cs := by unfold plL; rw [if_pos hE, plI_ins]
    refine ⟨by show SortE (plL e S.R.cs); rw [hL]; exact ins_sort h.sort, fun x hx => ?_, h.hap, by show S.R.h.length + (plL e S.R.cs).length = _; rw [hL, ins_length]; have := h.num; omega⟩
    have hx' : x ∈ ins e S.R.cs := by rw [← hL]; exact hx
    rcases (ins_mem _ _ _).1 hx' with rfl | hx'
    · exact hr'.1
    · exact h.pos x hx'
  · rw [if_neg hr]
    have hr' : ¬ (0 ≤ e.at_ ∧ 1 ≤ e.kind ∧ e.kind ≤ 4) := fun hh => hr (by unfold evRight; simpa using hh)
    have hE : plE e S.R.cs = 10 := by unfold plE; rw [if_pos (by omega)]
    have hL : plL e S.R.cs = S.R.cs := by unfold plL; rw [if_neg (by rw [hE]; decide)]
    exact ⟨by show SortE (plL e S.R.cs); rw [hL]; exact h.sort, by show ∀ x ∈ plL e S.R.cs, _; rw [hL]; exact h.pos, h.hap, by show S.R.h.length + (plL e S.R.cs).length = _; rw [hL]; exact h.num⟩
theorem OrI.next {S : St8} {m : Nat} (h : OrI S m) (o : Op8) (h8 : o.k ≠ 8) (hc : m < 256) : OrI (st8 S o) (if o.k = 7 ∧ evRight o.e = true then m + 1 else m) := by
  have hcl : S.R.cs.length < 256 := by have := h.num; omega
  by_cases h7 : o.k = 7
  · have hs : st8 S o = S.pl o.e := by unfold st8; simp [h7]
    rw [hs]
    have := h.pl o.e hcl
    by_cases hr : evRight o.e = true
    · rw [if_pos ⟨h7, hr⟩]; rwa [if_pos hr] at this
    · rw [if_neg (fun hh => hr hh.2)]; rwa [if_neg hr] at this
  · rw [if_neg (fun hh => h7 hh.1)]
    unfold st8
    split
    · exact (h.due _ _).put (apK _ _ _ _) _
    · split
      · exact (h.due _ _).put (rdK _ _ _ _) _
      · split
        · exact (h.due _ _).put (rsK _ _ _) _
        · split
          · exact (h.due _ _).put (fnK _ _ _) _
          · split
            · exact (h.due _ _).put (flK _ _) _
            · split
              · exact h.put (rvK _ _ _) _
              · exact h
section
variable (d : DvR) (zs : List ZsR)
theorem ap_dn (i : Int) (s : List Nat) : (apSp d zs i s).d.down = d.down := by
  unfold apSp
  split
  · rfl
  · split <;> rfl
theorem rd_dn (i off : Int) : (rdSp d zs i off).d.down = d.down := by unfold rdSp; split <;> rfl
theorem rs_dn (i : Int) : (rsSp d zs i).d.down = d.down := by unfold rsSp; split <;> rfl
theorem fn_dn (i : Int) : (fnSp d zs i).d.down = d.down := by unfold fnSp; split <;> rfl
theorem fl_dn : (flSp d zs).d.down = d.down := by unfold flSp; split <;> rfl
theorem rv_dn (ks : List Int) (h : d.down = false) : (rvSp d zs ks).d.down = false := by unfold rvSp; split <;> first | rfl | exact h
end
structure CalmI (S : St8) : Prop where
  cs : S.R.cs = []
  h : S.R.h = []
  up : S.R.d.down = false
  M : ∀ z o, S.M z o = (zeros 64, 0)
theorem CalmI.due {S : St8} (h : CalmI S) (z : Int) (fl : Bool) : S.due z fl = S := by
  obtain ⟨⟨d, zs, cs, hh⟩, M⟩ := S
  have h1 : cs = [] := h.cs
  subst h1
  unfold St8.due dueD
  dsimp only
  split <;> rfl
theorem mk0_calm {M : Mk} (h : ∀ z o, M z o = (zeros 64, 0)) (a b : Int) : ∀ z o, mk0 M a b z o = (zeros 64, 0) := fun z o => by
  unfold mk0; split
  · rfl
  · exact h z o
theorem CalmI.next {S : St8} (h : CalmI S) (o : Op8) (h6 : o.k ≤ 6) : CalmI (st8 S o) := by
  have hd := fun z fl => h.due z fl
  unfold st8
  split
  · unfold St8.ap
    rw [hd]
    refine ⟨h.cs, h.h, (ap_dn _ _ _ _).trans (by rw [hd]; exact h.up), fun z o' => ?_⟩
    show (if _ then mk0 S.M _ _ else S.M) z o' = _
    split
    · exact mk0_calm h.M _ _ z o'
    · exact h.M z o'
  · split
    · unfold St8.rd; rw [hd]; exact ⟨h.cs, h.h, (rd_dn _ _ _ _).trans (by rw [hd]; exact h.up), h.M⟩
    · split
      · unfold St8.rs; rw [hd]; exact ⟨h.cs, h.h, (rs_dn _ _ _).trans (by rw [hd]; exact h.up), h.M⟩
      · split
        · unfold St8.fn; rw [hd]; exact ⟨h.cs, h.h, (fn_dn _ _ _).trans (by rw [hd]; exact h.up), h.M⟩
        · split
          · unfold St8.fl; rw [hd]; exact ⟨h.cs, h.h, (fl_dn _ _).trans (by rw [hd]; exact h.up), h.M⟩
          · split
            · exact ⟨h.cs, h.h, rv_dn _ _ _ h.up, h.M⟩
            · rw [if_neg (by omega), if_neg (by omega)]; exact h
end Go.Proofs.Ytajkajgnjcnolaa

namespace Go.Proofs.Ytajkajgnjcnolaa
open Go.RowKit Go.Maps
set_option linter.unusedVariables false
set_option linter.unnecessarySimpa false
set_option linter.unusedSimpArgs false
def kvP (k : Int × Int) : Value := .agg #[.int .i64 k.1, .int .i64 k.2]
def hmA (h : List Nat × Int) : Array Value := (bvals h.1 ++ [Value.int .i64 h.2]).toArray
def hmV (h : List Nat × Int) : Value := .agg (hmA h)
theorem kvP_inj (x y : Int × Int) (h : kvP x = kvP y) : x = y := by
  obtain ⟨a, b⟩ := x
  obtain ⟨c, d⟩ := y
  simp [kvP] at h
  simp [h]
theorem hmA_size {h : List Nat × Int} (hl : h.1.length = 64) : (hmA h).size = 65 := by simp [hmA, bvals_length, hl]
theorem hmA_one (h : List Nat × Int) : (hmA h).all (·.oneCell') = true := by
  simp only [hmA, List.all_toArray, List.all_eq_true]
  intro u hu
  rcases List.mem_append.1 hu with h | h
  · exact bvals_one _ u h
  · obtain rfl := List.mem_singleton.1 h; rfl
theorem hmA_n {h : List Nat × Int} (hl : h.1.length = 64) : (hmA h)[64]? = some (.int .i64 h.2) := by
  have : (bvals h.1).length = 64 := by rw [bvals_length, hl]
  simp [hmA, this]
theorem hmA_at {h : List Nat × Int} (i : Nat) (hi : i < h.1.length) : (hmA h)[i]? = (bvals h.1)[i]? := by
  simp only [hmA, List.getElem?_toArray]
  rw [List.getElem?_append_left (by rw [bvals_length]; exact hi)]
theorem hm_range {w : World} {g : Nat} {t : TypeId} {h : List Nat × Int} (hb : Blk w g t (hmA h)) : w.rangeAt g 0 (bvals h.1) := by
  intro j u hu
  have hj : j < h.1.length := by
    have := (List.getElem?_eq_some_iff.1 hu).1
    rwa [bvals_length] at this
  rw [Nat.zero_add, hb.cell, hmA_at j hj]
  exact hu
theorem Try.keyPl : Keyed Try.prog 102 := Keyed.of_law (deep_law_laid (m := 2) (by kernel_rfl) (by omega) (of_decide_eq_true (by kernel_rfl)) (by kernel_rfl) (by rw [Try.underlying102]))
theorem Try.cellsPl : Try.prog.cellsOf 102 = 2 := by kernel_rfl
theorem key_pl {z o : Int} (hz : (Lit.int .i64 z).wf = true) (ho : (Lit.int .i64 o).wf = true) : ∃ l, keyOf Try.prog 102 (kvP (z, o)) = some l := by
  have hk : Try.prog.keyType 102 = true := by kernel_rfl
  have hf : (kvP (z, o)).formed Try.prog 102 = true := by simp [kvP, Value.formed, Try.underlying102, Try.cellsPl]
  have hn : 0 < Try.prog.types.size := of_decide_eq_true (by kernel_rfl)
  obtain ⟨m, hm⟩ : ∃ m, Try.prog.types.size = m + 1 := ⟨_, (Nat.sub_add_cancel hn).symm⟩
  have hc : (kvP (z, o)).cells.toList = [.int .i64 z, .int .i64 o] := rfl
  refine ⟨.string (keyBytes [.int .i64 z, .int .i64 o]), ?_⟩
  unfold keyOf
  rw [hk, hf, hc, hm]
  simp [Try.underlying102, Program.keyLits, Try.cellsPl, Try.cellsI, Try.underlying3, hz, ho]
theorem Try.zeroHm (w : World) : (zeroValue 100).run Try.prog w = .ok (hmV (zeros 64, 0)) w := by kernel_rfl
theorem Try.infoHm : (Try.prog.info? 100).map (·.size) = some 65 := by kernel_rfl
theorem Try.infoPl : (Try.prog.info? 102).map (·.size) = some 2 := by kernel_rfl
theorem Try.infoEvp : (Try.prog.info? 37).map (fun i => (i.zero, i.size, i.bytes)) = some (some (.agg (evA ev0)), 68, 96) := by kernel_rfl
theorem elEv : ElK Try.prog 88 37 68 := by
  obtain ⟨i0, hi, hz0, hz1, hz2⟩ := info_parts Try.infoEvp
  exact ⟨Try.underlying88, ⟨i0, _, hi, hz0, hz1, by rw [hz2]; decide, by show (evA ev0).size = 68; rw [evA_size (zeros_length 64)]⟩, by decide⟩
def pdA (D : Nat) (ve : Value) (n : Nat) (mb : Nat) : Array Value := #[.pointer (some ⟨D, 0, none⟩), ve, .int .i64 (n : Nat), .map (some mb)]
def PdF (X D : Nat) (vz ve : Value) (l : List ZcR) (mb : Nat) (i : Nat) : Prop := i = X ∨ DvF D vz l i ∨ ve.ownBlock = some i ∨ i = mb
structure PdAt (lo : Nat) (w : World) (X : Nat) (S : St8) (D : Nat) (vz ve : Value) (l : List ZcR) (mb n : Nat) (f : Int × Int → Option (List Nat × Int)) : Prop where
  blk : Blk w X 91 (pdA D ve S.R.h.length mb)
  dv : DvAt lo w D vz S.R.d l
  zs : l.map ZcR.z = S.R.zs
  ev : RowE 37 lo w ve (S.R.h ++ S.R.cs)
  mp : MapF Try.prog 102 kvP hmV w mb n f
  mkf : ∀ z o, (f (z, o)).getD (zeros 64, 0) = S.M z o
  m64 : ∀ z o, (S.M z o).1.length = 64 ∧ ∀ c ∈ (S.M z o).1, c < 256
  mn : ∀ z o, 0 ≤ (S.M z o).2 ∧ (S.M z o).2 ≤ (S.R.h.length : Int)
  len : l.length ≤ 1000
  so : SortE S.R.cs
  leX : lo ≤ X
  leM : lo ≤ mb
def pdAt (lo : Nat) (w : World) (X : Nat) (S : St8) (F : Nat → Prop) : Prop := ∃ D vz ve l mb n f, PdAt lo w X S D vz ve l mb n f ∧ F = PdF X D vz ve l mb
def PdTo (lo : Nat) (w : World) (X : Nat) (F : Nat → Prop) (S' : St8) (w' : World) : Prop := ∃ F', pdAt lo w' X S' F' ∧ Kept F w w' ∧ ∀ i, F' i → F i ∨ w.heap.size ≤ i
section
variable {lo X D mb n : Nat} {w w' w1 : World} {S S' : St8} {vz ve : Value} {l l' : List ZcR} {f : Int × Int → Option (List Nat × Int)} {T F : Nat → Prop}
theorem PdAt.eok (h : PdAt lo w X S D vz ve l mb n f) : ∀ e ∈ S.R.cs, EvOk e := fun e he => h.ev.ok e (List.mem_append.2 (.inr he))
theorem PdAt.sane (h : PdAt lo w X S D vz ve l mb n f) : Sane S.R.d S.R.zs := by rw [← h.zs]; exact h.dv.sane h.len
theorem PdAt.kept (h : PdAt lo w X S D vz ve l mb n f) (k : Kept T w w') (hn : ∀ i, PdF X D vz ve l mb i → ¬ T i) : PdAt lo w' X S D vz ve l mb n f :=
  ⟨h.blk.kept k (hn X (.inl rfl)), h.dv.kept k (fun i hi => hn i (.inr (.inl hi))), h.zs, h.ev.kept k (fun g hg => hn g (.inr (.inr (.inl hg)))), h.mp.kept k (hn mb (.inr (.inr (.inr rfl)))), h.mkf, h.m64, h.mn, h.len, h.so, h.leX, h.leM⟩
theorem PdAt.below (h : PdAt lo w X S D vz ve l mb n f) (hb : Below w.heap.size w w') : PdAt lo w' X S D vz ve l mb n f := h.kept (Kept.of_below (S := fun _ => False) hb) (fun _ _ h => h)
theorem PdAt.lov (h : PdAt lo w X S D vz ve l mb n f) {i : Nat} (hi : PdF X D vz ve l mb i) : lo ≤ i := by
  rcases hi with rfl | hi | hi | rfl
  · exact h.leX
  · exact h.dv.lov hi
  · exact own_lov h.ev.own hi
  · exact h.leM
theorem PdAt.lt (h : PdAt lo w X S D vz ve l mb n f) {i : Nat} (hi : PdF X D vz ve l mb i) : i < w.heap.size := by
  rcases hi with rfl | hi | hi | rfl
  · exact h.blk.lt
  · exact h.dv.lt hi
  · exact own_lt h.ev.own hi
  · exact h.mp.lt
theorem PdAt.not (h : PdAt lo w X S D vz ve l mb n f) {g : Nat} {t : TypeId} {cs : Array Value} (hg : Blk w g t cs) (h0 : t ≠ 91) (h1 : t ≠ 96) (h2 : t ≠ 93) (h3 : t ≠ 114) (h4 : t ≠ 34) (h5 : t ≠ 37) : ¬ PdF X D vz ve l mb g := by
  rintro (rfl | hi | hi | rfl)
  · exact Blk.unlike hg h.blk h0 rfl
  · exact h.dv.notblk hg h1 h2 h3 h4 hi
  · exact own_unlike h.ev.own hg (Ne.symm h5) hi.symm
  · exact h.mp.notblk hg rfl
theorem PdAt.dvX (h : PdAt lo w X S D vz ve l mb n f) : ¬ DvF D vz l X := h.dv.notblk h.blk (by decide) (by decide) (by decide) (by decide)
theorem PdAt.dvE (h : PdAt lo w X S D vz ve l mb n f) {g : Nat} (hg : ve.ownBlock = some g) : ¬ DvF D vz l g := h.dv.notrow h.ev.own (by decide) (by decide) (by decide) (by decide) hg
theorem PdAt.dvM (h : PdAt lo w X S D vz ve l mb n f) : ¬ DvF D vz l mb := by
  rintro (e | hi | ⟨c, hc, e | hi⟩)
  · exact h.mp.notblk h.dv.blk e.symm
  · exact h.mp.notrow h.dv.own hi rfl
  · obtain ⟨j, hj⟩ := List.getElem?_of_mem hc
    exact h.mp.notblk (h.dv.each j c hj).blk e.symm
  · obtain ⟨j, hj⟩ := List.getElem?_of_mem hc
    exact h.mp.notrow (h.dv.each j c hj).own hi rfl
theorem PdAt.eX (h : PdAt lo w X S D vz ve l mb n f) {g : Nat} (hg : ve.ownBlock = some g) : g ≠ X := fun e => own_unlike h.ev.own h.blk (by decide) (by rw [hg, e])
theorem PdAt.eM (h : PdAt lo w X S D vz ve l mb n f) {g : Nat} (hg : ve.ownBlock = some g) : g ≠ mb := h.mp.notrow h.ev.own hg
theorem PdAt.xM (h : PdAt lo w X S D vz ve l mb n f) : X ≠ mb := h.mp.notblk h.blk
theorem PdAt.c0 (h : PdAt lo w X S D vz ve l mb n f) : w.cell? ⟨X, 0, none⟩ = some (.pointer (some ⟨D, 0, none⟩)) := (h.blk.cell 0).trans rfl
theorem PdAt.c1 (h : PdAt lo w X S D vz ve l mb n f) : w.cell? ⟨X, 1, none⟩ = some ve := (h.blk.cell 1).trans rfl
theorem PdAt.c2 (h : PdAt lo w X S D vz ve l mb n f) : w.cell? ⟨X, 2, none⟩ = some (.int .i64 (S.R.h.length : Nat)) := (h.blk.cell 2).trans rfl
theorem PdAt.c3 (h : PdAt lo w X S D vz ve l mb n f) : w.cell? ⟨X, 3, none⟩ = some (.map (some mb)) := (h.blk.cell 3).trans rfl
theorem PdAt.slice (h : PdAt lo w X S D vz ve l mb n f) : ∃ a c, ve = .slice a (S.R.h ++ S.R.cs).length c ∧ (S.R.h ++ S.R.cs).length ≤ c ∧ c ≤ 9223372036854775807 := by
  obtain ⟨a, c, rfl⟩ := own_slice h.ev.own
  obtain ⟨_, c1, c2⟩ := ownK_cap h.ev.own
  unfold maxLen at c2
  exact ⟨a, c, rfl, c1, c2⟩
theorem PdTo.same (h : pdAt lo w X S F) (hb : Below w.heap.size w w') : PdTo lo w X F S w' := by
  obtain ⟨D, vz, ve, l, mb, n, f, h, rfl⟩ := h
  exact ⟨_, ⟨D, vz, ve, l, mb, n, f, h.below hb, rfl⟩, Kept.of_below hb, fun _ h => .inl h⟩
theorem PdTo.below (h : PdTo lo w X F S' w1) (hb : Below w1.heap.size w1 w') : PdTo lo w X F S' w' := by
  obtain ⟨F', ⟨D, vz, ve, l, mb, n, f, h1, rfl⟩, h2, h3⟩ := h
  exact ⟨_, ⟨D, vz, ve, l, mb, n, f, h1.below hb, rfl⟩, kept_next h2 hb, h3⟩
theorem PdTo.after (hb : Below w.heap.size w w1) (h : PdTo lo w1 X F S' w') : PdTo lo w X F S' w' := by
  obtain ⟨F', h1, h2, h3⟩ := h
  refine ⟨F', h1, (Kept.of_below (S := fun _ => False) hb).andThen h2 (fun _ _ h => h.elim) (fun _ _ h => h), fun i hi => ?_⟩
  rcases h3 i hi with h | h
  · exact .inl h
  · exact .inr (Nat.le_trans hb.size h)
theorem PdTo.step {S2 : St8} {w2 : World} (h : PdTo lo w X F S' w1) (k : ∀ F', pdAt lo w1 X S' F' → PdTo lo w1 X F' S2 w2) : PdTo lo w X F S2 w2 := by
  obtain ⟨F', h1, h2, h3⟩ := h
  obtain ⟨F2, k1, k2, k3⟩ := k F' h1
  refine ⟨F2, k1, h2.andThen k2 (fun _ _ h => h) (fun i hi hF => ?_), fun i hi => ?_⟩
  · rcases h3 i hF with h | h
    · exact h
    · omega
  · rcases k3 i hi with h | h
    · exact h3 i h
    · exact .inr (Nat.le_trans h2.size h)
theorem PdTo.blk (h : PdTo lo w X F S' w') (h' : PdAt lo w X S D vz ve l mb n f) (hF : F = PdF X D vz ve l mb) {g : Nat} {t : TypeId} {cs : Array Value} (hg : Blk w g t cs) (h0 : t ≠ 91) (h1 : t ≠ 96) (h2 : t ≠ 93) (h3 : t ≠ 114) (h4 : t ≠ 34) (h5 : t ≠ 37) : Blk w' g t cs := by
  obtain ⟨F', _, k, _⟩ := h
  subst hF
  exact hg.kept k (h'.not hg h0 h1 h2 h3 h4 h5)
theorem PdAt.dev (h : PdAt lo w X S D vz ve l mb n f) {d' : DvR} {zs' : List ZsR} (hT : DvTo lo w D vz l d' zs' w') : ∃ l', PdAt lo w' X ⟨⟨d', zs', S.R.cs, S.R.h⟩, S.M⟩ D vz ve l' mb n f ∧ Kept (DvF D vz l) w w' ∧ ∀ i, DvF D vz l' i → DvF D vz l i ∨ w.heap.size ≤ i := by
  obtain ⟨l', k1, k2, k3, k4⟩ := hT
  have hl : l'.length = l.length := by
    obtain ⟨a, c, e⟩ := own_slice k1.own
    obtain ⟨a', c', e'⟩ := own_slice h.dv.own
    rw [e'] at e
    simp at e
    exact e.2.1.symm
  exact ⟨l', ⟨h.blk.kept k3 h.dvX, k1, k2, h.ev.kept k3 (fun g hg => h.dvE hg), h.mp.kept k3 h.dvM, h.mkf, h.m64, h.mn, by rw [hl]; exact h.len, h.so, h.leX, h.leM⟩, k3, k4⟩
theorem PdAt.devTo (h : PdAt lo w X S D vz ve l mb n f) {d' : DvR} {zs' : List ZsR} (hT : DvTo lo w D vz l d' zs' w') : PdTo lo w X (PdF X D vz ve l mb) ⟨⟨d', zs', S.R.cs, S.R.h⟩, S.M⟩ w' := by
  obtain ⟨l', k1, k2, k3⟩ := h.dev hT
  refine ⟨_, ⟨D, vz, ve, l', mb, n, f, k1, rfl⟩, k2.mono (fun i _ hi => .inr (.inl hi)), fun i hi => ?_⟩
  rcases hi with rfl | hi | hi | rfl
  · exact .inl (.inl rfl)
  · rcases k3 i hi with h5 | h5
    · exact .inl (.inr (.inl h5))
    · exact .inr h5
  · exact .inl (.inr (.inr (.inl hi)))
  · exact .inl (.inr (.inr (.inr rfl)))
theorem PdAt.map (h : PdAt lo w X S D vz ve l mb n f) {n' : Nat} {f' : Int × Int → Option (List Nat × Int)} {M' : Mk} (hm : MapF Try.prog 102 kvP hmV w' mb n' f') (k : Kept (· = mb) w w') (hf : ∀ z o, (f' (z, o)).getD (zeros 64, 0) = M' z o) (h64 : ∀ z o, (M' z o).1.length = 64 ∧ ∀ c ∈ (M' z o).1, c < 256) (hn : ∀ z o, 0 ≤ (M' z o).2 ∧ (M' z o).2 ≤ (S.R.h.length : Int)) : PdAt lo w' X ⟨S.R, M'⟩ D vz ve l mb n' f' :=
  ⟨h.blk.kept k h.xM, h.dv.kept k (fun i hi e => h.dvM (e ▸ hi)), h.zs, h.ev.kept k (fun g hg => h.eM hg), hm, hf, h64, hn, h.len, h.so, h.leX, h.leM⟩
theorem PdAt.mapTo (h : PdAt lo w X S D vz ve l mb n f) {n' : Nat} {f' : Int × Int → Option (List Nat × Int)} {M' : Mk} (hm : MapF Try.prog 102 kvP hmV w' mb n' f') (k : Kept (· = mb) w w') (hf : ∀ z o, (f' (z, o)).getD (zeros 64, 0) = M' z o) (h64 : ∀ z o, (M' z o).1.length = 64 ∧ ∀ c ∈ (M' z o).1, c < 256) (hn : ∀ z o, 0 ≤ (M' z o).2 ∧ (M' z o).2 ≤ (S.R.h.length : Int)) : PdTo lo w X (PdF X D vz ve l mb) ⟨S.R, M'⟩ w' :=
  ⟨_, ⟨D, vz, ve, l, mb, n', f', h.map hm k hf h64 hn, rfl⟩, k.mono (fun i _ hi => .inr (.inr (.inr hi))), fun _ h => .inl h⟩
theorem pdAt.to (h : pdAt lo w X S F) (hS : S = S') : PdTo lo w X F S' w := by subst hS; exact PdTo.same h (Below.refl _ _)
end
end Go.Proofs.Ytajkajgnjcnolaa

