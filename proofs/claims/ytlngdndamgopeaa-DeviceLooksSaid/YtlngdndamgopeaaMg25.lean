import Derived.Test.YtlngdndamgopeaaMg23
import Derived.RangeFuncBox
import Derived.OwnWalkIn
import Derived.Great.BuildSlice
/-
  Layer 7 (zdev): a zone's sectors, collected.
-/
namespace Go.Proofs.Ytlngdndamgopeaa
open Go.RowKit Go.Shelf
attribute [local go_sem] Oper.semAt_some
set_option linter.unusedVariables false
set_option linter.unnecessarySimpa false
set_option linter.unusedSimpArgs false


section
variable {F : Fence} {n : Nat} {P : Program} {w : World} {ops : Array Oper} {rest : List Oper} {o : Oper} {a : Act} {Q : Exit → Act → World → Prop} {S E : TypeId}
/-- A slice of one array is built, in a round. -/
theorem wplIn_buildS (T : ElS P S E) (hg : o.guard = none) (x : Operand) (ho : o.op = .buildSlice S 1 #[(0, x)]) (s : List Nat) (hx : a.eval x = .agg (bA s)) (hs : s.length = 64)
    (h : wpListIn F n P ops Q rest (a.put o.dst (.slice (some ⟨w.heap.size, 0, none⟩) 1 1)) (w.alloc (Obj.cells (bA s) E))) : wpListIn F n P ops Q (o :: rest) a w := by
  obtain ⟨i0, z0, hi, hz0, hz1, hz2, hz3⟩ := T.info
  refine wplIn_value hg (.slice (some ⟨w.heap.size, 0, none⟩) 1 1) (by simp [Oper.about, ho]) (by rw [ho]; intro c h; cases h) ?_ h
  have hf : Instr.fill (fun i => some (i * i0.size, i0.size)) ((Array.range (1 * i0.size)).map (z0.cells[· % z0.cells.size]!)) (#[(0, x)].map fun (i, x) => (i, a.eval x)).toList = some (bA s) := by
    rw [show (#[(0, x)].map fun (i, x) => (i, a.eval x)).toList = [(0, a.eval x)] by simp, hx, hz1]
    exact fill_one 64 _ _ (by simp) (by rw [bA_size, hs])
  unfold execOp
  simp only [ho, Sem.run_bind, run_buildSlice w S E 1 _ (bA s) i0 z0 T.und hi hz0 (by rw [hz1]; decide) (by rw [hz1]; decide) hf, Result.andThen_ok]
  rfl
/-- One more is appended, in a round. -/
theorem wplIn_appendS (T : ElS P S E) (hg : o.guard = none) (s x : Operand) (ho : o.op = .call { callee := .builtin .append, args := #[s, x], argTypes := #[S, S] })
    (base : Nat) (v : Value) (k : Nat) (xs : List Value) (hs : a.eval s = v) (hown : w.ownsRow base E 64 v k xs) (g : Nat) (t : List Nat) (hx : a.eval x = .slice (some ⟨g, 0, none⟩) 1 1) (ht : t.length = 64) (hb : Blk w g E (bA t)) (hk : k ≤ 1000) (hbase : base ≤ w.heap.size)
    (h : ∀ v' w', w'.ownsRow base E 64 v' (k + 1) (xs ++ bvals t) → w.grownBy w' v.ownBlock → wpListIn F n P ops Q rest (a.put o.dst v') w') : wpListIn F n P ops Q (o :: rest) a w := by
  obtain ⟨i0, z0, hi, hz0, hz1, hz2, hz3⟩ := T.info
  refine wpListIn_append_own w hg s x S ho base E i0 z0 64 64 T.und hi hz0 hz1 hz2 hz3 (by decide) v k xs hs hown ⟨g, 0, none⟩ 1 1 (bvals t) hx (by rw [bvals_length, ht]) (fun j u hu => ?_) (bvals_one t) (by unfold maxLen; omega) (by omega) hbase (fun v' w' h1 h2 _ => h v' w' h1 h2)
  rw [show (⟨g, 0, none⟩ : Addr).add j = ⟨g, j, none⟩ by have := Addr.add_mid g 0 j; rwa [Nat.zero_add] at this, hb.cell j]
  simpa [bA] using hu
end
theorem own_shed {B : Nat} {w w' : World} {base : Nat} {e : TypeId} {s n : Nat} {v : Value} {xs : List Value} (h : w.ownsRow base e s v n xs) (hs : Shed B w w') : w'.ownsRow base e s v n xs := by
  obtain ⟨h1, h2⟩ := h
  refine ⟨h1, ?_⟩
  rcases h2 with h2 | ⟨g, cap, cur, rfl, hg, hh, r⟩
  · exact .inl h2
  · exact .inr ⟨g, cap, cur, rfl, hg, hs.same g e cur hh, r⟩
theorem numq_all {ss : List (List Nat)} (h : ∀ s ∈ ss, s.length = 64) : (numq ss ss.length).map (fun x => nrm x.2) = ss := by
  apply List.ext_getElem
  · simp [numq]
  · intro i h1 h2
    simp only [numq, List.map_map, List.getElem_map, List.getElem_range, Function.comp]
    rw [List.getD_eq_getElem?_getD, List.getElem?_eq_getElem h2]
    exact nrm_of (h _ (List.getElem_mem h2))

set_option maxRecDepth 100000 in
set_option maxHeartbeats 4000000 in
theorem sec7 {lo D : Nat} {w : World} {vz : Value} {d : DvR} {l : List ZcR} {k : Nat} {c : ZcR} (h : DvAt lo w D vz d l) (hc : l[k]? = some c) : Calls Try.prog 24 #[.pointer (some ⟨D, 0, none⟩), .int .i64 (k : Nat)] w fun e w' => ∃ v, e = .returned v ∧ w'.ownsRow w.heap.size 34 64 v c.z.ss.length (flat c.z.ss) ∧ Below w.heap.size w w' := by
  have Hok := Lib.hid (h.ok k c hc)
  have Hc := Lib.hid hc
  have hlen : c.z.ss.length ≤ 64 := by have := Hok.out.len; have := Hok.out.size.2; omega
  have Hltw : Hid (∀ g, c.v.ownBlock = some g → g < w.heap.size) := Lib.hid (fun g hg => h.lt (.inr (.inr ⟨c, List.mem_of_getElem? hc, .inr hg⟩)))
  have hb1 := below_alloc w (Obj.cells #[.slice none 0 0] 52)
  have HS := Lib.hid (h.below hb1)
  have HB := Lib.hid hb1
  have HO : Hid (Boxed (w.alloc (Obj.cells #[.slice none 0 0] 52)) w.heap.size 52 (.slice none 0 0)) := Lib.hid (Boxed.new w 52 _)
  clear h hc hb1
  refine calls_marks Try.func24 rfl ?_
  simp only [Try.ntmps24, List.size_toArray, List.length_cons, List.length_nil, Nat.reduceAdd, Nat.reduceSub, Array.replicate_succ, Array.replicate_zero, List.push_toArray, List.append_toArray, List.nil_append, List.cons_append]
  go_upto_region 2 with fail
  generalize w.alloc (Obj.cells #[.slice none 0 0] 52) = w1 at *
  go_wp2_with fail
  refine (dlk_ok HS.out Hc.out).mono ?_
  rintro e w2 ⟨rfl, rfl⟩
  have hb8 := below_alloc w1 (Obj.cells #[.pointer (some ⟨c.A, 0, none⟩)] 62)
  have hB := Blk.new w1 62 #[.pointer (some ⟨c.A, 0, none⟩)]
  have hS := HS.out.below hb8
  have hO := HO.out.alloc (Obj.cells #[.pointer (some ⟨c.A, 0, none⟩)] 62)
  have hb := bthen' HB.out hb8
  clear HS HO HB hb8
  go_wp2_with fail
  generalize w1.heap.size = bp at *
  generalize w1.alloc (Obj.cells #[.pointer (some ⟨c.A, 0, none⟩)] 62) = V8 at *
  have Hkeep := Lib.hid (hS.each k c Hc.out)
  refine wp_rangeB (N := c.z.ss.length) (w0 := V8) rfl (enters_of Try.func66 (by kernel_rfl) rfl) (allF_gives 7 (by decide) V8 Hkeep.out Hok.out hB) (fun h k => h.trans k) (KpRow.put (fun g hg => Hkeep.out.lt (.inr hg))) (Below.refl _ _) (fun _ => rfl)
    (fun pre W => (∃ v, Boxed W w.heap.size 52 v ∧ W.ownsRow w.heap.size 34 64 v pre.length (flat (pre.map (fun x => nrm x.2))) ∧ True) ∧ Below w.heap.size w W) (fun _ _ _ => False)
    (OwnFrom.and (Own.from (holdsRow_own w.heap.size w.heap.size 52 34 64 (fun pre : List (Nat × List Nat) => pre.length) (fun pre => flat (pre.map (fun x => nrm x.2))) (fun _ _ => True)) _) (ownFrom_below (Nat.le_refl _) hb.size)) (fun _ => ownFrom_pure' (fun _ => False)) ⟨⟨_, hO, ownK_nil _ _ _ _, trivial⟩, hb⟩ 34 (fun x => bA (nrm x.2)) ?a1
    (fun pre x W hI => fun g' hg' => Below.heap_alloc W (Obj.cells (bA (nrm x.2)) 34) g' (Nat.lt_of_lt_of_le (Hltw.out g' hg') hI.2.size)) ?assign ?body ?done ?stop
  case assign =>
    intro lb pre x W K hI hK
    unfold encQ
    clear hI
    have hz64 := zero_secF
    gi_wp2_with (first | (refine wplIn_store_new rfl _ _ rfl (bA (nrm x.2)) W 34 (bA (zeros 64)) rfl rfl rfl (info_sec (nrm_length _)) (by rw [bA_size, bA_size, zeros_length, nrm_length]) (bA_one _) ?_; go_frame))
    generalize W.heap.size = bx at hK ⊢
    exact hK
  case stop =>
    rintro D c pre W hD hp h _
    exact h.elim
  case body =>
    rintro lb pre ⟨xi, xs0⟩ bx W ⟨⟨v, hBo, hrow, _⟩, hbw⟩ hbx hpl
    change Blk W bx 34 (bA (nrm xs0)) at hbx
    obtain ⟨a0, cap0, rfl⟩ := own_slice hrow
    have e1 : flat ((pre ++ [(xi, xs0)]).map (fun x => nrm x.2)) = flat (pre.map (fun x => nrm x.2)) ++ bvals (nrm xs0) := by
      rw [List.map_append, flat_append]; exact congrArg _ (flat_one _)
    have e2 : (pre ++ [(xi, xs0)]).length = pre.length + 1 := by simp
    have E1 := Lib.hid e1
    have E2 := Lib.hid e2
    have Hx64 := Lib.hid (nrm_length xs0)
    have HBo := Lib.hid hBo
    have Hrow := Lib.hid hrow
    have Hbw := Lib.hid hbw
    have Hbx := Lib.hid hbx
    have cB := hBo.cell
    have hp64 : pre.length ≤ 1000 := by omega
    clear e1 e2 hBo hrow hbw hbx hS hO hb hB
    generalize flat (pre.map (fun x => nrm x.2)) = fl at *
    generalize nrm xs0 = xs at *
    gi_wp2_with (first | (refine wplIn_load rfl _ rfl bx rfl 34 (bA xs) _ Hbx.out Try.underlying34 rfl (info_sec Hx64.out) ?_; go_frame) | (refine wplIn_buildS elF rfl _ rfl xs rfl Hx64.out ?_; go_frame) | (refine wplIn_appendS elF rfl _ _ rfl w.heap.size (.slice a0 pre.length cap0) pre.length fl rfl (ownK_below Hrow.out (below_alloc W (Obj.cells (bA xs) 34))) W.heap.size xs rfl Hx64.out (Blk.new W 34 (bA xs)) hp64 (Nat.le_trans Hbw.out.size (below_alloc W (Obj.cells (bA xs) 34)).size) ?_; intro v' w1 hown' hgrow; obtain ⟨g', cap', rfl⟩ := ownsRow_succ hown'; obtain ⟨hv1, hv2, hr2, hk2, hb2⟩ := HBo.out.appended (by decide) Hrow.out Hbw.out.size (Nat.le_refl _) hown' hgrow; have hc1 := hv1.cell; have hf1 := hv1.frozen; have HV2 := Lib.hid hv2; have HR2 := Lib.hid hr2; have HK2 := Lib.hid hk2; have HB2 := Lib.hid hb2; clear hv1 hv2 hr2 hk2 hb2 hown' hgrow; go_frame))
    exact ⟨HK2.out.from _, (fun g' hg' => HB2.out.block g' (Hltw.out g' hg')), ⟨⟨_, HV2.out, by rw [E1.out, E2.out]; exact HR2.out, trivial⟩, Hbw.out.trans HB2.out⟩⟩
  case done =>
  rintro Dd yz W1 hD rfl ⟨⟨v, hBo, hrow, _⟩, hbw⟩ hd
  rw [numq_length, numq_all Hok.out.w64] at hrow
  have HM := Lib.hid (Marks.cons (B := w.heap.size) (ds := []) (Marks.nil _ V8) hb.size hD hd (Marks.nil _ W1))
  obtain ⟨a0, cap0, rfl⟩ := own_slice hrow
  have cB := hBo.cell
  have Hrow := Lib.hid hrow
  have Hbw := Lib.hid hbw
  clear hBo hrow hbw hd hS hO hb hB
  go_wp2_with fail
  exact leave_marks HM.out (fun w' hw' => ⟨_, results_tmp rfl _ _ _, _, rfl, own_shed Hrow.out hw', Hbw.out.trans hw'.bel⟩)

end Go.Proofs.Ytlngdndamgopeaa

/-
  Layer 7 (zdev): what stays while a zone's sectors are spoilt.
-/
namespace Go.Proofs.Ytlngdndamgopeaa
open Go.RowKit
set_option linter.unusedVariables false
set_option linter.unnecessarySimpa false
set_option linter.unusedSimpArgs false


/-- A zone's sectors from q on are as they were collected. -/
def LookI (zs : List ZsR) (k : Nat) (ss : List (List Nat)) (q : Nat) : Prop := ∃ z, zs[k]? = some z ∧ z.ss.length = ss.length ∧ ∀ i, q ≤ i → z.ss[i]? = ss[i]?
theorem LookI.start {zs : List ZsR} {k : Nat} {z : ZsR} (hz : zs[k]? = some z) : LookI zs k z.ss 0 := ⟨z, hz, rfl, fun _ _ => rfl⟩
theorem look_step {d : DvR} {zs : List ZsR} {k q : Nat} {ss : List (List Nat)} (p : List Nat) (hd : d.down = false) (hok : ∀ z ∈ zs, ZsOk z) (h : LookI zs k ss q) (hq : q < ss.length) :
    ∃ zs', spSp d zs (k : Int) (q : Int) p = ⟨0, 0, d, zs'⟩ ∧ zs'.length = zs.length ∧ LookI zs' k ss (q + 1) ∧
      ((stD zs' (k : Int) = 4 ∧ rdSp d zs' (k : Int) (q : Int) = ⟨0, 32, up1 d, zs'⟩ ∧ rdV7 d zs' (k : Int) (q : Int) = zeros 64) ∨
       ((stD zs' (k : Int) == 4) = false ∧ rdSp d zs' (k : Int) (q : Int) = ⟨0, 0, up1 d, zs'⟩ ∧ rdV7 d zs' (k : Int) (q : Int) = zx (ss.getD q []) p 64)) := by
  obtain ⟨z, hz, hl, hs⟩ := h
  have hk : k < zs.length := (List.getElem?_eq_some_iff.1 hz).1
  have hokz := hok z (List.mem_of_getElem? hz)
  have hqz : q < z.ss.length := by omega
  have hh : holS z (q : Int) = true := by unfold holS; simp; omega
  have hdb : dhB zs.length (k : Int) = true := by unfold dhB; simp; omega
  have hch : chS7 z (q : Int) p = { z with ss := z.ss.set q (zx (z.ss.getD q []) p 64) } := by unfold chS7; rw [if_pos hh, Int.toNat_natCast]
  have hgd : z.ss.getD q [] = ss.getD q [] := by rw [List.getD_eq_getElem?_getD, List.getD_eq_getElem?_getD, hs q (Nat.le_refl _)]
  have hsp : spSp d zs (k : Int) (q : Int) p = ⟨0, 0, d, zs.set k (chS7 z (q : Int) p)⟩ := by
    unfold spSp
    rw [if_pos hdb, zsat_of hz, Int.toNat_natCast]
    unfold chE7
    rw [if_pos hh]
  have hz' : (zs.set k (chS7 z (q : Int) p))[k]? = some (chS7 z (q : Int) p) := List.getElem?_set_self hk
  have hdb' : dhB (zs.set k (chS7 z (q : Int) p)).length (k : Int) = true := by rw [List.length_set]; exact hdb
  have hcm : cmdE d (zs.set k (chS7 z (q : Int) p)).length (k : Int) = 0 := by unfold cmdE; rw [if_neg (by rw [hd]; decide), if_pos hdb']
  have hlen : (chS7 z (q : Int) p).ss.length = ss.length := by rw [hch]; show (z.ss.set _ _).length = _; rw [List.length_set]; exact hl
  have hst : stD (zs.set k (chS7 z (q : Int) p)) (k : Int) = stS z := by unfold stD; rw [if_pos hdb', zsat_of hz', st_ch]
  have hrd : rdSp d (zs.set k (chS7 z (q : Int) p)) (k : Int) (q : Int) = ⟨0, rdES (chS7 z (q : Int) p) (q : Int), up1 d, zs.set k (chS7 z (q : Int) p)⟩ := by unfold rdSp; rw [if_neg (fun h => h hcm), zsat_of hz']
  have hrv : rdV7 d (zs.set k (chS7 z (q : Int) p)) (k : Int) (q : Int) = rdVS (chS7 z (q : Int) p) (q : Int) := by unfold rdV7; rw [if_neg (fun h => h hcm), zsat_of hz']
  have hfl : (chS7 z (q : Int) p).failed = z.failed := by rw [hch]
  have hh' : holS (chS7 z (q : Int) p) (q : Int) = true := by unfold holS; simp; omega
  refine ⟨_, hsp, List.length_set, ⟨_, hz', hlen, fun i hi => ?_⟩, ?_⟩
  · rw [hch]
    show (z.ss.set _ _)[i]? = _
    rw [List.getElem?_set_ne (by omega)]
    exact hs i (by omega)
  · by_cases hf : z.failed = 4
    · left
      have hE : rdES (chS7 z (q : Int) p) (q : Int) = 32 := by unfold rdES; rw [if_pos (hfl.trans hf)]
      refine ⟨?_, ?_, ?_⟩
      · rw [hst, stS_yes (by rw [hf]; decide), hf]
      · rw [hrd, hE]
      · rw [hrv]; unfold rdVS; rw [hE]; rfl
    · right
      have hE : rdES (chS7 z (q : Int) p) (q : Int) = 0 := by unfold rdES; rw [if_neg (fun e => hf (hfl.symm.trans e)), if_pos hh']
      refine ⟨?_, ?_, ?_⟩
      · rw [hst]
        rcases stS_cases hokz with ⟨-, h2, h3⟩ | ⟨h1, h2⟩ | ⟨h1, h2⟩
        · simp; omega
        · rw [h2]; rfl
        · exact absurd h1 hf
      · rw [hrd, hE]
      · rw [hrv]
        unfold rdVS
        rw [if_pos hE, Int.toNat_natCast, hch]
        show (z.ss.set q _).getD q [] = _
        rw [List.getD_eq_getElem?_getD, List.getElem?_set_self hqz, ← hgd]
        rfl
/-- A device while a zone's sectors, collected in v, are walked. -/
structure LkI (w : World) (D : Nat) (vz : Value) (d : DvR) (l : List ZcR) (v : Value) (m : Nat) (ss : List (List Nat)) (W : World) : Prop where
  dv : DvAt w.heap.size W D vz d l
  B : Below w.heap.size w W
  row : W.ownsRow w.heap.size 34 64 v m (flat ss)
  away : ∀ g, v.ownBlock = some g → ¬ DvF D vz l g
theorem LkI.below {w W W' : World} {D : Nat} {vz v : Value} {d : DvR} {l : List ZcR} {m : Nat} {ss : List (List Nat)} (h : LkI w D vz d l v m ss W) (hb : Below W.heap.size W W') : LkI w D vz d l v m ss W' :=
  ⟨h.dv.below hb, h.B.trans (hb.mono h.B.size), ownK_below h.row hb, h.away⟩
theorem LkI.to {w W W' : World} {D : Nat} {vz v : Value} {d d' : DvR} {l : List ZcR} {m : Nat} {ss : List (List Nat)} {zs' : List ZsR} (h : LkI w D vz d l v m ss W) (hT : DvTo w.heap.size W D vz l d' zs' W') :
    ∃ l', LkI w D vz d' l' v m ss W' ∧ l'.map ZcR.z = zs' ∧ ∀ g t cs, Blk W g t cs → ¬ DvF D vz l g → Blk W' g t cs ∧ ¬ DvF D vz l' g := by
  have hB := hT.bel h.dv h.B (Nat.le_refl _)
  obtain ⟨l', k1, k2, k3, k4⟩ := hT
  have hn : ∀ g, g < W.heap.size → ¬ DvF D vz l g → ¬ DvF D vz l' g := fun g hg hn hi => by
    rcases k4 g hi with h1 | h1
    · exact hn h1
    · omega
  exact ⟨l', ⟨k1, hB, own_kept h.row k3 (fun g hg => h.away g hg), fun g hg => hn g (own_lt h.row hg) (h.away g hg)⟩, k2, fun g t cs hb hg => ⟨hb.kept k3 hg, hn g hb.lt hg⟩⟩
theorem LkI.of_row {w W W' : World} {D : Nat} {vz v : Value} {d : DvR} {l : List ZcR} {m : Nat} {ss : List (List Nat)} (h : DvAt w.heap.size W D vz d l) (hB : Below w.heap.size w W) (hr : W'.ownsRow W.heap.size 34 64 v m (flat ss)) (hb : Below W.heap.size W W') : LkI w D vz d l v m ss W' :=
  ⟨h.below hb, hB.trans (hb.mono hB.size), own_base hr (fun g hg => Nat.le_trans hB.size (own_lov hr hg)), fun g hg hi => by have h1 := h.lt hi; have h2 := own_lov hr hg; omega⟩
theorem oksOf {lo D : Nat} {w : World} {vz : Value} {d : DvR} {l : List ZcR} (h : DvAt lo w D vz d l) : ∀ z ∈ l.map ZcR.z, ZsOk z := by
  intro z hz
  obtain ⟨c, hc, rfl⟩ := List.mem_map.1 hz
  obtain ⟨i, hi⟩ := List.getElem?_of_mem hc
  exact h.ok i c hi

end Go.Proofs.Ytlngdndamgopeaa

