import Derived.Test.YtajkajgnjcnolaaMp06
import Derived.Test.YtajkajgnjcnolaaMp08
namespace Go.Proofs.Ytajkajgnjcnolaa
open Go.RowKit
set_option linter.unusedVariables false
set_option linter.unnecessarySimpa false
set_option linter.unusedSimpArgs false
section
variable {P : Program} {w : World} {ops : Array Oper} {rest : List Oper} {o : Oper} {a : Act} {K : Act → World → Prop} {Q : Exit → Act → World → Prop} {S E : TypeId} {sz : Nat}
theorem wpo_buildK (T : ElK P S E sz) (hk : sz ≤ 1000) (x : Operand) (ho : o.op = .buildSlice S 1 #[(0, x)]) (c : Array Value) (hx : a.eval x = .agg c) (hs : c.size = sz)
    (h : K (a.put o.dst (.slice (some ⟨w.heap.size, 0, none⟩) 1 1)) (w.alloc (Obj.cells c E))) : Oper.wp P o a w K Q := by
  obtain ⟨i0, z0, hi, hz0, hz1, hz2, hz3⟩ := T.info
  have hp := T.pos
  refine wp_buildSlice S E 1 _ ho c i0 z0 T.und hi hz0 (by rw [hz1]; omega) (by rw [hz1]; omega) ?_ h
  rw [show (#[(0, x)].map fun (i, x) => (i, a.eval x)).toList = [(0, a.eval x)] by simp, hx, hz1]
  exact fill_one sz _ _ (by simp) hs
theorem wpl_buildK (T : ElK P S E sz) (hk : sz ≤ 1000) (hgd : o.guard = none) (x : Operand) (ho : o.op = .buildSlice S 1 #[(0, x)]) (c : Array Value) (hx : a.eval x = .agg c) (hs : c.size = sz)
    (h : wpList P ops Q rest (a.put o.dst (.slice (some ⟨w.heap.size, 0, none⟩) 1 1)) (w.alloc (Obj.cells c E))) : wpList P ops Q (o :: rest) a w :=
  wpList_plain hgd fun K' hK => wpo_buildK T hk x ho c hx hs (hK _ _ h)
end
theorem src_row {w : World} (t : TypeId) (c : Array Value) : ∀ ad, some (⟨w.heap.size, 0, none⟩ : Addr) = some ad → ∀ j u, c.toList[j]? = some u → (w.alloc (Obj.cells c t)).cell? (ad.add j) = some u := by
  intro ad e j u hu
  injection e with e
  subst e
  have hadd : (⟨w.heap.size, 0, none⟩ : Addr).add j = ⟨w.heap.size, j, none⟩ := by have := Addr.add_mid w.heap.size 0 j; rwa [Nat.zero_add] at this
  rw [hadd, (Blk.new w t c).cell]
  rwa [Array.getElem?_toList] at hu
theorem Duo7.ing {T U : TypeId} {w0 w : World} {c q : Array Value} (h : Duo7 T U w0 c q w) (i : Nat) (v : Value) : Duo7 T U w0 c (q.setIfInBounds i v) (w.setCell ⟨w0.heap.size + 1, i, none⟩ v) :=
  h.out (h.g.set i v) ((Kept.refl (· = w0.heap.size + 1) w).setCell (p := ⟨w0.heap.size + 1, i, none⟩) rfl v)
def d70 (size opn : Int) : R7d := ⟨size, opn, 0, false⟩
def l70 (n : Nat) : List (R7z × Value) := List.replicate n (z70, .slice none 0 0)
theorem l70_succ (n : Nat) : zrow (l70 (n + 1)) = zrow (l70 n) ++ z7Z.toList := by
  unfold zrow l70
  rw [List.replicate_succ', List.map_append, List.flatten_append]
  rfl
set_option maxRecDepth 100000 in
set_option maxHeartbeats 4000000 in
theorem nw7 {lo : Nat} {w : World} (n : Nat) (size opn : Int) (hn : n ≤ 1000) (hlo : lo ≤ w.heap.size) :
    Calls Try.prog 26 #[.int .i64 (n : Nat), .int .i64 size, .int .i64 opn] w fun e w' => ∃ v', e = .returned (.agg (d7A (d70 size opn) v')) ∧ Row7 lo w' v' (l70 n) ∧ Below w.heap.size w w' := by
  have HSz : Hid (Duo7 27 27 w d7Z d7Z ((w.alloc (Obj.cells #[.slice none 0 0, .int .i64 0, .int .i64 0, .int .i64 0, .bool false] 27)).alloc (Obj.cells #[.slice none 0 0, .int .i64 0, .int .i64 0, .int .i64 0, .bool false] 27))) := Lib.hid Duo7.start
  have Hlo := Lib.hid hlo
  clear hlo
  go_enter Try.func26, Try.ntmps26
  go_upto_region 2 with (first | (refine wpl_build (by rfl) _ _ rfl (.agg (d7A (d70 size opn) (.slice none 0 0))) (fun w => by kernel_rfl) ?_; go_frame) | (refine wpl_store rfl _ _ rfl (w.heap.size + 1) (d7A (d70 size opn) (.slice none 0 0)) rfl rfl _ _ HSz.out.g Try.info7D rfl (d7A_one _ _ _ _) ?_; intro w0 hSg hKg; have HS := Lib.hid (HSz.out.out hSg hKg); clear hSg hKg; go_frame))
  go_wp2_with fail
  go_loopw [8] (fun i wr => ∃ j : Nat, j ≤ n ∧ i = .int .i64 j ∧ ∃ v', Duo7 27 27 w d7Z (d7A (d70 size opn) v') wr ∧ wr.ownsRow lo 87 4 v' j (zrow (l70 j)) ∧ ∀ g, v'.ownBlock = some g → w.heap.size + 1 < g) (fun i _ => n - (intOf i).toNat)
  case atStart => exact ⟨0, Nat.zero_le _, rfl, _, HS.out, ownK_nil _ _ _ _, fun g h => by simp [Value.ownBlock] at h⟩
  case round =>
    rename_i v0
    obtain ⟨j, hj, rfl, v', hS, hO, hvb⟩ := hrel
    obtain ⟨a1, cap1, rfl⟩ := own_slice hO
    obtain ⟨-, q1, q2⟩ := ownK_cap hO
    unfold maxLen at q2
    have c0 : wr.cell? ⟨w.heap.size + 1, 0, none⟩ = some (.slice a1 j cap1) := (hS.g.cell 0).trans rfl
    have HSr := Lib.hid hS
    have HOr := Lib.hid hO
    have Hvb := Lib.hid hvb
    clear hS hO hvb HS
    by_cases hlt : j < n
    · have HSb := Lib.hid (HSr.out.below (below_alloc wr (Obj.cells z7Z 87)))
      have HOb := Lib.hid (ownK_below HOr.out (below_alloc wr (Obj.cells z7Z 87)))
      go_upto_region 4 with (first | (refine wpl_build (by rfl) _ _ rfl (.agg z7Z) (fun w => by kernel_rfl) ?_; go_frame) | (refine wpl_buildK el7Z (by decide) rfl _ rfl z7Z rfl rfl ?_; go_frame) | (refine wpl_appendK el7Z rfl (.tmp 18) (.tmp 20) rfl lo (.slice a1 j cap1) j (zrow (l70 j)) rfl HOb.out (some ⟨wr.heap.size, 0, none⟩) 1 1 z7Z.toList rfl rfl (fun e => by cases e) (src_row _ _) (by intro u hu; simp [z7Z] at hu; rcases hu with rfl | rfl | rfl <;> rfl) (by omega) (by have := Hlo.out; have := HSb.out.b.size; omega) ?_; intro v2 w3 hown hgr hv2; obtain ⟨a2, cp2, rfl⟩ := own_slice hown; have HS3 := Lib.hid (HSb.out.grown hgr (fun G0 e => Hvb.out G0 e)); have Hv3 : Hid (∀ G0, (Value.slice a2 (j + 1) cp2).ownBlock = some G0 → w.heap.size + 1 < G0) := Lib.hid (fun G0 hg => by rcases hv2 with h | h; (rw [h] at hg; exact Hvb.out G0 hg); (rw [h] at hg; injection hg with hg; have := HSb.out.g.lt; omega)); rw [← l70_succ] at hown; have Hown := Lib.hid hown; have c0b := (HS3.out.g.cell 0).trans (show (d7A (d70 size opn) (.slice a1 j cap1))[0]? = some (.slice a1 j cap1) from rfl); have f0b := HS3.out.g.frozen 0; clear hown hgr hv2; go_frame))
      have HS4 : Hid (Duo7 27 27 w d7Z (d7A (d70 size opn) (.slice a2 (j + 1) cp2)) (w3.setCell ⟨w.heap.size + 1, 0, none⟩ (.slice a2 (j + 1) cp2))) := Lib.hid (HS3.out.ing 0 _)
      have HO4 := Lib.hid (own_kept Hown.out ((Kept.refl (· = w.heap.size + 1) w3).setCell (p := ⟨w.heap.size + 1, 0, none⟩) rfl (.slice a2 (j + 1) cp2)) (fun k hk e => by have := Hv3.out k hk; omega))
      clear c0b f0b
      generalize w3.setCell ⟨w.heap.size + 1, 0, none⟩ (.slice a2 (j + 1) cp2) = w4 at *
      go_wp2_with fail
      go_roundw
      case rel => exact ⟨j + 1, by omega, by go_num, _, HS4.out, HO4.out, Hv3.out⟩
      case measure => simp [intOf]; omega
    · obtain rfl : j = n := by omega
      go_wp2_with (first | (refine wpl_load rfl _ rfl (w.heap.size + 1) rfl _ _ _ (HSr.out.g) Try.underlying27 rfl Try.info7D ?_; go_frame) | (refine wpl_store rfl _ _ rfl (w.heap.size) (d7A (d70 size opn) (.slice a1 _ cap1)) rfl rfl _ _ HSr.out.x Try.info7D rfl (d7A_one _ _ _ _) ?_; intro w5 hSg hKg; have HF := Lib.hid (HSr.out.newx hSg hKg); have HOf := Lib.hid (own_kept HOr.out hKg (fun k hk e => by have := Hvb.out k hk; omega)); clear hSg hKg; go_frame))
      refine bodyPost_ret (v := .agg (d7A (d70 size opn) (.slice a1 _ cap1))) (results_cell_row Try.results26 _ _ (w.heap.size) 27 _ (0, 0) _ rfl HF.out.x Try.underlying27 rfl Try.info7D) rfl ⟨_, rfl, ⟨?_, ?_⟩, HF.out.b⟩
      · rw [show (l70 j).length = j by simp [l70]]; exact HOf.out
      · intro p hp
        obtain rfl := List.eq_of_mem_replicate hp
        exact ownK_nil _ _ _ _
end Go.Proofs.Ytajkajgnjcnolaa

namespace Go.Proofs.Ytajkajgnjcnolaa
open Go.RowKit
set_option linter.unusedVariables false
set_option linter.unnecessarySimpa false
set_option linter.unusedSimpArgs false
structure ZsI (f : Nat → ZsR → ZsR) (zs zs' : List ZsR) (j : Nat) : Prop where
  len : zs'.length = zs.length
  done : ∀ i, i < j → zs'[i]? = (zs[i]?).map (f i)
  rest : ∀ i, j ≤ i → zs'[i]? = zs[i]?
theorem ZsI.start (f : Nat → ZsR → ZsR) (zs : List ZsR) : ZsI f zs zs 0 := ⟨rfl, fun i h => absurd h (by omega), fun _ _ => rfl⟩
theorem ZsI.next {f : Nat → ZsR → ZsR} {zs zs' : List ZsR} {j : Nat} {z : ZsR} (h : ZsI f zs zs' j) (hz : zs'[j]? = some z) : ZsI f zs (zs'.set j (f j z)) (j + 1) := by
  have hj := (List.getElem?_eq_some_iff.1 hz).1
  refine ⟨by rw [List.length_set, h.len], fun i hi => ?_, fun i hi => ?_⟩
  · by_cases e : i = j
    · subst e
      rw [List.getElem?_set_self hj, ← h.rest i (Nat.le_refl _), hz]
      rfl
    · rw [List.getElem?_set_ne (fun e' => e e'.symm)]
      exact h.done i (by omega)
  · rw [List.getElem?_set_ne (by omega)]
    exact h.rest i (by omega)
theorem ZsI.map {f : Nat → ZsR → ZsR} {zs zs' : List ZsR} (h : ZsI f zs zs' zs.length) : zs' = zs.mapIdx f := by
  apply List.ext_getElem?
  intro i
  rw [List.getElem?_mapIdx]
  by_cases hi : i < zs.length
  · rw [h.done i hi]
  · rw [List.getElem?_eq_none (by rw [h.len]; omega), List.getElem?_eq_none (by omega)]
    rfl
set_option maxRecDepth 100000 in
set_option maxHeartbeats 2000000 in
theorem dfl_down {lo D : Nat} {w : World} {vz : Value} {d : DvR} {l : List ZcR} (h : DvAt lo w D vz d l) (hd : d.down = true) : Calls Try.prog 65 #[.pointer (some ⟨D, 0, none⟩)] w fun e w' => e = .returned (.int .i64 34) ∧ w = w' := by
  have c4 : w.cell? ⟨D, 4, none⟩ = some (.bool true) := (h.blk.cell 4).trans (congrArg (fun t => some (Value.bool t)) hd)
  clear h hd
  go_enter Try.func65, Try.ntmps65
  go_wp2_with fail
  go_ret
  exact ⟨rfl, rfl⟩
set_option maxRecDepth 100000 in
set_option maxHeartbeats 4000000 in
theorem dfl_up {lo D : Nat} {w : World} {vz : Value} {d : DvR} {l : List ZcR} (h : DvAt lo w D vz d l) (hd : d.down = false) (hn : 0 ≤ d.count ∧ d.count ≤ 1000000) (hl : l.length ≤ 1000) : Calls Try.prog 65 #[.pointer (some ⟨D, 0, none⟩)] w fun e w' => e = .returned (.int .i64 0) ∧ DvTo lo w D vz l { d with count := d.count + 1 } ((l.map ZcR.z).mapIdx (fun _ => flS)) w' := by
  obtain ⟨n1, n2⟩ := hn
  have c4 : w.cell? ⟨D, 4, none⟩ = some (.bool false) := (h.blk.cell 4).trans (congrArg (fun t => some (Value.bool t)) hd)
  have c3 : w.cell? ⟨D, 3, none⟩ = some (.int .i64 d.count) := (h.blk.cell 3).trans rfl
  have f3 := h.blk.frozen 3
  have H := Lib.hid h.cnt
  have Hl := Lib.hid h.slice
  clear h hd
  go_enter Try.func65, Try.ntmps65
  go_upto_region 4 with fail
  clear c3 c4 f3
  generalize w.setCell ⟨D, 3, none⟩ (.int .i64 (d.count + 1)) = w1 at *
  obtain ⟨a, cap, rfl, q1, q2⟩ := Hl.out
  have c0 : w1.cell? ⟨D, 0, none⟩ = some (.slice a l.length cap) := (H.out.1.blk.cell 0).trans rfl
  go_wp2_with fail
  clear c0
  go_loopw [21] (fun i wr => ∃ j zs', j ≤ l.length ∧ i = .int .i64 (j : Nat) ∧ DvTo lo w D (.slice a l.length cap) l { d with count := d.count + 1 } zs' wr ∧ ZsI (fun _ => flS) (l.map ZcR.z) zs' j) (fun i _ => l.length - (intOf i).toNat)
  case atStart => exact ⟨0, _, Nat.zero_le _, rfl, ⟨l, H.out.1, rfl, H.out.2, fun _ h => .inl h⟩, ZsI.start _ _⟩
  case round =>
    rename_i v0
    obtain ⟨j, zs', hj, rfl, ⟨l', hA, hm, hk, hf⟩, hI⟩ := hrel
    subst hm
    have hlen : l'.length = l.length := by have h := hI.len; rwa [List.length_map, List.length_map] at h
    have HA := Lib.hid hA
    have HK := Lib.hid hk
    have Hf := Lib.hid hf
    have HI := Lib.hid hI
    clear hA hk hf hI
    by_cases hlt : j < l.length
    · obtain ⟨c, hc⟩ : ∃ c, l'[j]? = some c := ⟨_, List.getElem?_eq_getElem (by omega)⟩
      obtain ⟨g, cap', hv, _, _, hg⟩ := HA.out.ptr hc
      injection hv with hv1 hv2 hv3
      subst hv1
      subst hv3
      have Hc := Lib.hid hc
      have Hlen := Lib.hid hlen
      clear hc hlen hv2
      go_wp2_with fail
      refine (zflF (HA.out.each j c Hc.out)).mono ?_
      rintro e w2 ⟨rfl, hT⟩
      have HT := Lib.hid (DvTo.step HK.out Hf.out (HA.out.zone Hc.out hT (flS_ok (HA.out.ok j c Hc.out)) (HA.out.size j c Hc.out)))
      have HI2 := Lib.hid (HI.out.next (z := c.z) (by rw [List.getElem?_map, Hc.out]; rfl))
      clear hT hg
      go_wp2_with fail
      go_roundw
      case rel => exact ⟨j + 1, _, by omega, by go_num, HT.out, HI2.out⟩
      case measure => simp [intOf]; omega
    · obtain rfl : j = l.length := by omega
      have Hm := Lib.hid (ZsI.map (f := fun _ => flS) (zs := l.map ZcR.z) (zs' := l'.map ZcR.z) (by rw [List.length_map]; exact HI.out))
      clear hlen
      go_wp2_with fail
      go_ret
      exact ⟨rfl, l', HA.out, Hm.out, HK.out, Hf.out⟩
set_option maxRecDepth 100000 in
set_option maxHeartbeats 2000000 in
theorem drv_up {lo D : Nat} {w : World} {vz : Value} {d : DvR} {l : List ZcR} (kv : Value) (h : DvAt lo w D vz d l) (hd : d.down = false) : Calls Try.prog 66 #[.pointer (some ⟨D, 0, none⟩), kv] w fun e w' => e = .returned (.tuple #[]) ∧ w = w' := by
  have c4 : w.cell? ⟨D, 4, none⟩ = some (.bool false) := (h.blk.cell 4).trans (congrArg (fun t => some (Value.bool t)) hd)
  clear h hd
  go_enter Try.func66, Try.ntmps66
  go_wp2_with fail
  first | go_end0 | refine bodyPost_ret (results_none rfl _ _ _) rfl ?_
  exact ⟨rfl, rfl⟩
set_option maxRecDepth 100000 in
set_option maxHeartbeats 4000000 in
theorem drv_down {lo D : Nat} {w : World} {vz : Value} {d : DvR} {l : List ZcR} {ka : Option Addr} {kl kc : Nat} {ks : List Int} (h : DvAt lo w D vz d l) (hd : d.down = true) (hk0 : ∃ w0, RowZ w0 ka kl kc ks ∧ Below w0.heap.size w0 w ∧ w0.heap.size ≤ lo) (hl : l.length ≤ 1000) : Calls Try.prog 66 #[.pointer (some ⟨D, 0, none⟩), .slice ka kl kc] w fun e w' => e = .returned (.tuple #[]) ∧ DvTo lo w D vz l { d with down := false } ((l.map ZcR.z).mapIdx (fun i z => crS z (ks.getD i 0))) w' := by
  obtain ⟨w0, hk, hb0, hlo0⟩ := hk0
  obtain ⟨m1, m2⟩ : kl ≤ kc ∧ kc ≤ 9223372036854775807 := by have h := hk.max; unfold maxLen at h; exact ⟨hk.le, h⟩
  have c4 : w.cell? ⟨D, 4, none⟩ = some (.bool true) := (h.blk.cell 4).trans (congrArg (fun t => some (Value.bool t)) hd)
  obtain ⟨a, cap, rfl, q1, q2⟩ := h.slice
  have c0 : w.cell? ⟨D, 0, none⟩ = some (.slice a l.length cap) := (h.blk.cell 0).trans rfl
  have H := Lib.hid h
  have HKs := Lib.hid hk
  have HB0 := Lib.hid hb0
  have Hlo0 := Lib.hid hlo0
  clear h hd hk hb0 hlo0
  go_enter Try.func66, Try.ntmps66
  go_wp2_with fail
  clear c0 c4
  go_loopw [17] (fun i wr => ∃ j zs', j ≤ l.length ∧ i = .int .i64 (j : Nat) ∧ DvTo lo w D (.slice a l.length cap) l d zs' wr ∧ ZsI (fun i z => crS z (ks.getD i 0)) (l.map ZcR.z) zs' j) (fun i _ => l.length - (intOf i).toNat)
  case atStart => exact ⟨0, _, Nat.zero_le _, rfl, DvTo.same H.out (Below.refl _ _), ZsI.start _ _⟩
  case round =>
    rename_i v0
    obtain ⟨j, zs', hj, rfl, ⟨l', hA, hm, hk, hf⟩, hI⟩ := hrel
    subst hm
    have hlen : l'.length = l.length := by have h := hI.len; rwa [List.length_map, List.length_map] at h
    have HA := Lib.hid hA
    have HK := Lib.hid hk
    have Hf := Lib.hid hf
    have HI := Lib.hid hI
    clear hA hk hf hI
    by_cases hlt : j < l.length
    · obtain ⟨c, hc⟩ : ∃ c, l'[j]? = some c := ⟨_, List.getElem?_eq_getElem (by omega)⟩
      obtain ⟨g, cap', hv, _, _, hg⟩ := HA.out.ptr hc
      injection hv with hv1 hv2 hv3
      subst hv1
      subst hv3
      have Hc := Lib.hid hc
      have Hlen := Lib.hid hlen
      have hks : RowZ wr ka kl kc ks := HKs.out.below (HB0.out.trans (HK.out.below (by have := HB0.out.size; exact this) (fun i hi e => by have := H.out.lov e; have := Hlo0.out; omega)))
      have Hks := Lib.hid hks
      have Hlr : Hid (lo ≤ wr.heap.size) := Lib.hid (by have := HA.out.lov (.inl rfl); have := HA.out.blk.lt; omega)
      clear hc hlen hv2 hks
      by_cases hjk : j < kl
      · obtain ⟨kb, koff, rfl, hkc⟩ := Hks.out.cells (by omega)
        have ck := hkc j hjk
        clear hkc
        go_wp2_with fail
        refine (zcrF (ks.getD j 0) (HA.out.each j c Hc.out) (HA.out.ok j c Hc.out) Hlr.out).mono ?_
        rintro e w2 ⟨rfl, hT⟩
        have HT := Lib.hid (DvTo.step HK.out Hf.out (HA.out.zone Hc.out hT (crS_ok (HA.out.ok j c Hc.out) _) (HA.out.size j c Hc.out)))
        have HI2 := Lib.hid (HI.out.next (z := c.z) (by rw [List.getElem?_map, Hc.out]; rfl))
        clear hT hg ck
        go_wp2_with fail
        go_roundw
        case rel => exact ⟨j + 1, _, by omega, by go_num, HT.out, HI2.out⟩
        case measure => simp [intOf]; omega
      · have hk0 : ks.getD j 0 = 0 := by rw [List.getD_eq_getElem?_getD, List.getElem?_eq_none (by rw [Hks.out.length]; omega)]; rfl
        have Hk0 := Lib.hid hk0
        clear hk0
        go_wp2_with fail
        refine (zcrF 0 (HA.out.each j c Hc.out) (HA.out.ok j c Hc.out) Hlr.out).mono ?_
        rintro e w2 ⟨rfl, hT⟩
        have HT := Lib.hid (DvTo.step HK.out Hf.out (HA.out.zone Hc.out hT (crS_ok (HA.out.ok j c Hc.out) _) (HA.out.size j c Hc.out)))
        have HI2 := Lib.hid (HI.out.next (z := c.z) (by rw [List.getElem?_map, Hc.out]; rfl))
        clear hT hg
        go_wp2_with fail
        go_roundw
        case rel => exact ⟨j + 1, _, by omega, by go_num, HT.out, by have h := HI2.out; simp only [Hk0.out] at h; exact h⟩
        case measure => simp [intOf]; omega
    · obtain rfl : j = l.length := by omega
      have Hm := Lib.hid (ZsI.map (f := fun i z => crS z (ks.getD i 0)) (zs := l.map ZcR.z) (zs' := l'.map ZcR.z) (by rw [List.length_map]; exact HI.out))
      have c4 : wr.cell? ⟨D, 4, none⟩ = some (.bool d.down) := (HA.out.blk.cell 4).trans rfl
      have f4 := HA.out.blk.frozen 4
      have HT := Lib.hid (DvTo.step HK.out Hf.out (HA.out.cell 4 (.bool false) (d' := { d with down := false }) rfl rfl))
      clear hlen
      go_wp2_with fail
      go_end0
      exact ⟨rfl, by rw [← Hm.out]; exact HT.out⟩
def dv0 (size opn : Int) : DvR := ⟨size, opn, 0, false⟩
theorem Try.infoP7 : (Try.prog.info? 93).map (fun i => (i.zero, i.size, i.bytes)) = some (some (.pointer none), 1, 8) := by kernel_rfl
theorem elP : ElT Try.prog 94 93 (.pointer none) := by
  obtain ⟨i0, hi, hz0, hz1, hz2⟩ := info_parts Try.infoP7
  exact ⟨Try.underlying94, ⟨i0, 8, hi, hz0, hz1, hz2, by decide⟩, rfl⟩
theorem DvAt.push {lo D : Nat} {w : World} {vz : Value} {d : DvR} {l : List ZcR} {w' : World} {v' : Value} {A : Nat} {z : ZsR} (h : DvAt lo w D vz d l) (k : Kept (fun i => i = D ∨ vz.ownBlock = some i) w w') (hblk : Blk w' D 96 (dvA d v')) (hown : w'.ownsRow lo 93 1 v' (l.length + 1) (l.map zptr ++ [.pointer (some ⟨A, 0, none⟩)])) (hz : ZsAt 114 34 lo w' A (.slice none 0 0) z) (hA : w.heap.size ≤ A) (hok : ZsOk z) (hsz : z.size = d.size) :
    DvAt lo w' D v' d (l ++ [⟨A, .slice none 0 0, z⟩]) := by
  have hE : ∀ (j : Nat) e, l[j]? = some e → ∀ g, ZF e.A e.v g → ¬ (g = D ∨ vz.ownBlock = some g) := fun j e he g hg => by
    have ze := h.each j e he
    rintro (e1 | e1) <;> rcases hg with e2 | e2
    · exact Blk.unlike h.blk ze.blk (by decide) (e1.symm.trans e2)
    · exact own_unlike ze.own h.blk (by decide) (by rw [e2, e1])
    · exact own_unlike h.own ze.blk (by decide) (by rw [e1, e2])
    · exact own_unlike2 h.own ze.own (by decide) e1 e2
  have hget : ∀ (j : Nat) e, (l ++ [⟨A, .slice none 0 0, z⟩])[j]? = some e → l[j]? = some e ∨ (j = l.length ∧ e = ⟨A, .slice none 0 0, z⟩) := fun j e he => by
    by_cases hj : j < l.length
    · rw [List.getElem?_append_left hj] at he; exact .inl he
    · rw [List.getElem?_append_right (by omega)] at he
      by_cases hj2 : j = l.length
      · subst hj2
        rw [Nat.sub_self] at he
        injection he with he
        exact .inr ⟨rfl, he.symm⟩
      · rw [List.getElem?_eq_none (by simp; omega)] at he; cases he
  refine ⟨hblk, ?_, fun j e he => ?_, fun j m e f he hf hjm => ?_, fun j e he => ?_, fun j e he => ?_, h.le⟩
  · rw [List.length_append, List.map_append]
    exact hown
  · rcases hget j e he with he | ⟨_, rfl⟩
    · exact (h.each j e he).kept k (hE j e he)
    · exact hz
  · rcases hget j e he with he | ⟨e1, rfl⟩
    · rcases hget m f hf with hf | ⟨_, rfl⟩
      · exact h.apart j m e f he hf hjm
      · exact ⟨fun e2 => by have := (h.each j e he).lt (.inl rfl); simp only at e2; omega, fun g _ e2 => by simp [Value.ownBlock] at e2⟩
    · rcases hget m f hf with hf | ⟨e2, rfl⟩
      · exact ⟨fun e2 => by have := (h.each m f hf).lt (.inl rfl); simp only at e2; omega, fun g e2 => by simp [Value.ownBlock] at e2⟩
      · exact absurd (e1.trans e2.symm) hjm
  · rcases hget j e he with he | ⟨_, rfl⟩
    · exact h.ok j e he
    · exact hok
  · rcases hget j e he with he | ⟨_, rfl⟩
    · exact h.size j e he
    · exact hsz
set_option maxRecDepth 100000 in
set_option maxHeartbeats 2000000 in
theorem dnew_no (n size opn : Int) (w : World) (h : (decide (1 ≤ n) && decide (n ≤ 512)) = false ∨ (decide (1 ≤ opn) && decide (opn ≤ 64)) = false) : Calls Try.prog 53 #[.int .i64 n, .int .i64 size, .int .i64 opn] w fun e w' => e = .returned (.tuple #[.pointer none, .int .i64 13]) ∧ w = w' := by
  cases h1 : (decide (1 ≤ n) && decide (n ≤ 512)) with
  | false =>
    have H1 := Lib.hid h1
    clear h h1
    go_enter Try.func53, Try.ntmps53
    go_wp2_with fail
    refine (dwi n 512 w).mono ?_
    rintro e w1 ⟨rfl, rfl⟩
    rw [H1.out]
    go_wp2_with fail
    go_ret2
    exact ⟨rfl, rfl⟩
  | true =>
    have h2 := h.resolve_left (by rw [h1]; decide)
    have H1 := Lib.hid h1
    have H2 := Lib.hid h2
    clear h h1 h2
    go_enter Try.func53, Try.ntmps53
    go_wp2_with fail
    refine (dwi n 512 w).mono ?_
    rintro e w1 ⟨rfl, rfl⟩
    rw [H1.out]
    go_wp2_with fail
    refine (dwi opn 64 w).mono ?_
    rintro e w1 ⟨rfl, rfl⟩
    rw [H2.out]
    go_wp2_with fail
    go_ret2
    exact ⟨rfl, rfl⟩
set_option maxRecDepth 100000 in
set_option maxHeartbeats 4000000 in
theorem dnew_size (n size opn : Int) (w : World) (h1 : (decide (1 ≤ n) && decide (n ≤ 512)) = true) (h2 : (decide (1 ≤ opn) && decide (opn ≤ 64)) = true) (h3 : size < 1 ∨ 64 < size) : Calls Try.prog 53 #[.int .i64 n, .int .i64 size, .int .i64 opn] w fun e w' => e = .returned (.tuple #[.pointer none, .int .i64 13]) ∧ Below w.heap.size w w' := by
  obtain ⟨n1, n2⟩ : 1 ≤ n ∧ n ≤ 512 := by simpa using h1
  have hd : decide ((0 : Int) < n) = true := decide_eq_true (by omega)
  have H1 := Lib.hid h1
  have H2 := Lib.hid h2
  have Hb := Lib.hid (below_alloc w (Obj.cells (dvA (dv0 size opn) (.slice none 0 0)) 96))
  clear h1 h2
  go_enter Try.func53, Try.ntmps53
  go_wp2_with fail
  refine (dwi n 512 w).mono ?_
  rintro e w1 ⟨rfl, rfl⟩
  rw [H1.out]
  go_wp2_with fail
  refine (dwi opn 64 w).mono ?_
  rintro e w1 ⟨rfl, rfl⟩
  rw [H2.out]
  go_upto_region 4 with (refine wpl_build (by rfl) _ _ rfl (.agg (dvA (dv0 size opn) (.slice none 0 0))) (fun w => by kernel_rfl) ?_; go_frame)
  generalize w.alloc (Obj.cells (dvA (dv0 size opn) (.slice none 0 0)) 96) = w1 at *
  go_wp2_with fail
  go_loopw [24] (fun i wr => i = .int .i64 0 ∧ wr = w1) (fun i _ => 1)
  case atStart => exact ⟨rfl, rfl⟩
  case round =>
    obtain ⟨rfl, rfl⟩ := hrel
    go_wp2_with fail
    refine (znewF_no size _ h3).mono ?_
    rintro e w2 ⟨rfl, rfl⟩
    clear h3
    go_wp2_with fail
    go_ret2
    exact ⟨rfl, Hb.out⟩
theorem DvAt.lower {lo D : Nat} {w : World} {vz : Value} {d : DvR} {l : List ZcR} {lo' : Nat} (h : DvAt lo w D vz d l) (hl : lo' ≤ lo) : DvAt lo' w D vz d l :=
  ⟨h.blk, own_base h.own (fun g hg => Nat.le_trans hl (own_lov h.own hg)), fun i c hc => ⟨(h.each i c hc).blk, own_base (h.each i c hc).own (fun g hg => Nat.le_trans hl (own_lov (h.each i c hc).own hg)), Nat.le_trans hl (h.each i c hc).le⟩, h.apart, h.ok, h.size, Nat.le_trans hl h.le⟩
set_option maxRecDepth 100000 in
set_option maxHeartbeats 4000000 in
theorem dnew_own (n : Nat) (size opn : Int) (w : World) (h1 : 1 ≤ n ∧ n ≤ 512) (h2 : 1 ≤ opn ∧ opn ≤ 64) (h3 : 1 ≤ size ∧ size ≤ 64) : Calls Try.prog 53 #[.int .i64 (n : Nat), .int .i64 size, .int .i64 opn] w fun e w' => e = .returned (.tuple #[.pointer (some ⟨w.heap.size, 0, none⟩), .int .i64 0]) ∧ (∃ vz l, DvAt w.heap.size w' w.heap.size vz (dv0 size opn) l ∧ l.map ZcR.z = List.replicate n (zs0 size)) ∧ Below w.heap.size w w' := by
  have hd1 : (decide ((1 : Int) ≤ (n : Int)) && decide ((n : Int) ≤ 512)) = true := by simp; omega
  have hd2 : (decide (1 ≤ opn) && decide (opn ≤ 64)) = true := by simp; omega
  have H1 := Lib.hid hd1
  have H2 := Lib.hid hd2
  have H3 := Lib.hid h3
  have hb0 := below_alloc w (Obj.cells (dvA (dv0 size opn) (.slice none 0 0)) 96)
  have hA0 : DvAt w.heap.size (w.alloc (Obj.cells (dvA (dv0 size opn) (.slice none 0 0)) 96)) w.heap.size (.slice none 0 0) (dv0 size opn) [] :=
    ⟨Blk.new w 96 _, own_nil _ _ _, fun i c h => by simp at h, fun i j c e h => by simp at h, fun i c h => by simp at h, fun i c h => by simp at h, Nat.le_refl _⟩
  have Hb0 := Lib.hid hb0
  have HA0 := Lib.hid hA0
  obtain ⟨n1, n2⟩ := h1
  clear hd1 hd2 hb0 hA0 h2 h3
  go_enter Try.func53, Try.ntmps53
  go_wp2_with fail
  refine (dwi (n : Int) 512 w).mono ?_
  rintro e w1 ⟨rfl, rfl⟩
  rw [H1.out]
  go_wp2_with fail
  refine (dwi opn 64 w).mono ?_
  rintro e w1 ⟨rfl, rfl⟩
  rw [H2.out]
  go_upto_region 4 with (refine wpl_build (by rfl) _ _ rfl (.agg (dvA (dv0 size opn) (.slice none 0 0))) (fun w => by kernel_rfl) ?_; go_frame)
  generalize w.alloc (Obj.cells (dvA (dv0 size opn) (.slice none 0 0)) 96) = w1 at *
  go_wp2_with fail
  go_loopw [24] (fun i wr => ∃ j vz l, j ≤ n ∧ i = .int .i64 (j : Nat) ∧ DvAt w.heap.size wr w.heap.size vz (dv0 size opn) l ∧ l.map ZcR.z = List.replicate j (zs0 size) ∧ Below w.heap.size w wr) (fun i _ => n - (intOf i).toNat)
  case atStart => exact ⟨0, _, [], Nat.zero_le _, rfl, HA0.out, rfl, Hb0.out⟩
  case round =>
    obtain ⟨j, vz, l, hj, rfl, hA, hm, hB⟩ := hrel
    have hll : l.length = j := by have h := congrArg List.length hm; rwa [List.length_map, List.length_replicate] at h
    subst hll
    have HA := Lib.hid hA
    have HB := Lib.hid hB
    have Hm := Lib.hid hm
    clear hA hB hm HA0 Hb0
    by_cases hlt : l.length < n
    · go_wp2_with fail
      refine (znewF_ok size wr H3.out.1 H3.out.2).mono ?_
      rintro e w2 ⟨rfl, hw2⟩
      have HZ : Hid (ZsAt 114 34 w.heap.size w2 wr.heap.size (.slice none 0 0) (zs0 size)) := Lib.hid (by rw [hw2]; exact zsat_new wr size HB.out.size)
      have Hb2 : Hid (Below wr.heap.size wr w2) := Lib.hid (by rw [hw2]; exact below_alloc _ _)
      have Hs2 : Hid (w2.heap.size = wr.heap.size + 1) := Lib.hid (by rw [hw2, World.size_alloc])
      have HA2 := Lib.hid (HA.out.below Hb2.out)
      clear hw2
      obtain ⟨a, cap, rfl, q1, q2⟩ := HA2.out.slice
      have c0 : w2.cell? ⟨w.heap.size, 0, none⟩ = some (.slice a l.length cap) := (HA2.out.blk.cell 0).trans rfl
      generalize hA9 : wr.heap.size = A at *
      have HA9 := Lib.hid hA9
      clear hA9
      have Hown2 := Lib.hid (own_below HA2.out.own (below_alloc w2 (Obj.cells #[.pointer (some ⟨A, 0, none⟩)] 93)))
      have hlo2 : w.heap.size ≤ (w2.alloc (Obj.cells #[.pointer (some ⟨A, 0, none⟩)] 93)).heap.size := by rw [World.size_alloc]; have := Hs2.out; have := HB.out.size; have := HA9.out; omega
      have Hlo2 := Lib.hid hlo2
      clear hlo2
      go_upto_region 10 with (refine wpl_appendV elP rfl (.tmp 38) (.tmp 40) rfl w.heap.size (.slice a l.length cap) l.length (l.map zptr) rfl Hown2.out (some ⟨w2.heap.size, 0, none⟩) 1 1 [.pointer (some ⟨A, 0, none⟩)] rfl rfl (fun e => by cases e) (src_row (w := w2) _ #[.pointer (some ⟨A, 0, none⟩)]) (by intro u hu; simp at hu; subst hu; rfl) (by omega) Hlo2.out ?_; intro v3 w3 ho hg hv3; obtain ⟨a3, cp3, rfl⟩ := own_slice ho; have Ho := Lib.hid ho; have Hg := Lib.hid hg; have hb3 := (HA2.out.blk.alloc (Obj.cells #[.pointer (some ⟨A, 0, none⟩)] 93)).grown hg (fun e => own_unlike HA2.out.own HA2.out.blk (by decide) e); have Hb3 := Lib.hid hb3; have c0b := (hb3.cell 0).trans (show (dvA (dv0 size opn) (.slice a l.length cap))[0]? = some (.slice a l.length cap) from rfl); have f0b := hb3.frozen 0; clear ho hg hv3 hb3; go_frame)
      have HAn : Hid (DvAt w.heap.size (w3.setCell ⟨w.heap.size, 0, none⟩ (.slice a3 (l.length + 1) cp3)) w.heap.size (.slice a3 (l.length + 1) cp3) (dv0 size opn) (l ++ [⟨A, .slice none 0 0, zs0 size⟩])) := Lib.hid (by
        have kb : Kept (fun i => i = w.heap.size ∨ (Value.slice a l.length cap).ownBlock = some i) w2 w3 := (Kept.alloc (Kept.refl _ w2) _).grown Hg.out (fun g e => .inr e)
        have ks := kb.setCell (p := ⟨w.heap.size, 0, none⟩) (.inl rfl) (.slice a3 (l.length + 1) cp3)
        refine HA.out.push (A := A) (z := zs0 size) ((Kept.of_below (S := fun _ => False) (by have h := Hb2.out; rwa [← HA9.out] at h)).andThen ks (fun _ _ h => h.elim) (fun _ _ h => h)) (Hb3.out.set 0 _) (own_kept Ho.out ((Kept.refl (· = w.heap.size) w3).setCell (p := ⟨w.heap.size, 0, none⟩) rfl _) (fun g hg e => own_unlike Ho.out Hb3.out (by decide) (by rw [hg, e]))) (HZ.out.kept ks (fun i hi e => ?_)) (Nat.le_of_eq HA9.out) (zs0_ok H3.out) rfl
        rcases hi with hi | hi
        · rcases e with e | e
          · have := HA.out.blk.lt; have := HA9.out; omega
          · have := own_lt HA.out.own e; have := HA9.out; omega
        · simp [Value.ownBlock] at hi)
      have HBn : Hid (Below w.heap.size w (w3.setCell ⟨w.heap.size, 0, none⟩ (.slice a3 (l.length + 1) cp3))) := Lib.hid (by
        have h2 : Below w.heap.size w w2 := HB.out.trans (Hb2.out.mono (by have := HB.out.size; have := HA9.out; omega))
        exact ((h2.alloc h2.size _).grown Hg.out (by rw [World.size_alloc]; have := h2.size; omega) (fun k e => own_lov HA.out.own e)).setCell (Nat.le_refl _) _)
      have Hm2 : Hid ((l ++ [(⟨A, .slice none 0 0, zs0 size⟩ : ZcR)]).map ZcR.z = List.replicate (l.length + 1) (zs0 size)) := Lib.hid (by rw [List.map_append, Hm.out, List.replicate_succ']; rfl)
      clear c0 c0b f0b
      generalize w3.setCell ⟨w.heap.size, 0, none⟩ (.slice a3 (l.length + 1) cp3) = w4 at *
      go_wp2_with fail
      go_roundw
      case rel => exact ⟨l.length + 1, _, _, by omega, by go_num, HAn.out, Hm2.out, HBn.out⟩
      case measure => simp [intOf]; omega
    · have hln : l.length = n := by omega
      have Hln := Lib.hid hln
      clear hln
      go_wp2_with fail
      go_ret2
      exact ⟨rfl, ⟨_, _, HA.out, by rw [← Hln.out]; exact Hm.out⟩, HB.out⟩
theorem dnew_ok {lo : Nat} (n : Nat) (size opn : Int) (w : World) (h1 : 1 ≤ n ∧ n ≤ 512) (h2 : 1 ≤ opn ∧ opn ≤ 64) (h3 : 1 ≤ size ∧ size ≤ 64) (hlo : lo ≤ w.heap.size) : Calls Try.prog 53 #[.int .i64 (n : Nat), .int .i64 size, .int .i64 opn] w fun e w' => e = .returned (.tuple #[.pointer (some ⟨w.heap.size, 0, none⟩), .int .i64 0]) ∧ (∃ vz l, DvAt lo w' w.heap.size vz (dv0 size opn) l ∧ l.map ZcR.z = List.replicate n (zs0 size)) ∧ Below w.heap.size w w' := by
  refine (dnew_own n size opn w h1 h2 h3).mono ?_
  rintro e w' ⟨rfl, ⟨vz, l, hA, hm⟩, hb⟩
  exact ⟨rfl, ⟨vz, l, hA.lower hlo, hm⟩, hb⟩
end Go.Proofs.Ytajkajgnjcnolaa

namespace Go.Proofs.Ytajkajgnjcnolaa
open Go.RowKit
set_option linter.unusedVariables false
set_option linter.unnecessarySimpa false
set_option linter.unusedSimpArgs false
def op7 (l : List (R7z × Value)) : Nat := l.countP (fun p => decide (p.1.state = 1))
theorem op7_step {l : List (R7z × Value)} {j : Nat} {p : R7z × Value} (hp : l[j]? = some p) : op7 (l.take (j + 1)) = op7 (l.take j) + if p.1.state = 1 then 1 else 0 := by
  unfold op7
  rw [List.take_add_one, hp, List.countP_append]
  simp [List.countP_cons]
theorem op7_le (l : List (R7z × Value)) : op7 l ≤ l.length := List.countP_le_length
theorem row_cell {lo n cap g : Nat} {w : World} {l : List (R7z × Value)} (h : w.ownsRow lo 87 4 (.slice (some ⟨g, 0, none⟩) n cap) n (zrow l)) (hn : l.length = n) (i : Nat) (p : R7z × Value) (hp : l[i]? = some p) (j : Nat) (v : Value) (hv : (z7L p)[j]? = some v) : w.cell? ⟨g, i * 4 + j, none⟩ = some v :=
  row_range h hn i p hp j v hv
set_option maxRecDepth 100000 in
set_option maxHeartbeats 4000000 in
theorem o7 {lo : Nat} {w : World} {v : Value} {l : List (R7z × Value)} (d : R7d) (hl : l.length ≤ 1000) (hr : Row7 lo w v l) :
    Calls Try.prog 58 #[.agg (d7A d v)] w fun e w' => e = .returned (.int .i64 (op7 l : Nat)) ∧ Below w.heap.size w w' := by
  obtain ⟨a, cap, rfl⟩ := own_slice hr.own
  obtain ⟨_, k1, k2⟩ := ownK_cap hr.own
  unfold maxLen at k2
  have hb0 := below_alloc w (Obj.cells (d7A d (.slice a l.length cap)) 27)
  have HX := Lib.hid (Blk.new w 27 (d7A d (.slice a l.length cap)))
  have HR := Lib.hid (hr.below hb0)
  have HB := Lib.hid hb0
  clear hr hb0
  go_enter Try.func58, Try.ntmps58
  go_upto_region 1 with fail
  generalize w.alloc (Obj.cells (d7A d (.slice a l.length cap)) 27) = w0 at *
  go_wp2_with fail
  go_loopw [3, 4] (fun n i wr => ∃ j : Nat, j ≤ l.length ∧ i = .int .i64 j ∧ n = .int .i64 (op7 (l.take j) : Nat) ∧ Row7 lo wr (.slice a l.length cap) l ∧ Blk wr w.heap.size 27 (d7A d (.slice a l.length cap)) ∧ Below w.heap.size w wr) (fun _ i _ => l.length - (intOf i).toNat)
  case atStart => exact ⟨0, Nat.zero_le _, rfl, rfl, HR.out, HX.out, HB.out⟩
  case round =>
    rename_i v0 _
    obtain ⟨j, hj, rfl, rfl, hR, hX, hB⟩ := hrel
    have c0 : wr.cell? ⟨w.heap.size, 0, none⟩ = some (.slice a l.length cap) := (hX.cell 0).trans rfl
    have HRr := Lib.hid hR
    have HXr := Lib.hid hX
    have HBr := Lib.hid hB
    have hc := op7_le (l.take j)
    rw [List.length_take] at hc
    clear hR hX hB HX HR HB
    by_cases hlt : j < l.length
    · obtain ⟨p, hp⟩ : ∃ p, l[j]? = some p := ⟨_, List.getElem?_eq_getElem hlt⟩
      obtain ⟨g, rfl, _, _⟩ := ownK_form HRr.out.own (by omega)
      have c2 : wr.cell? ⟨g, j * 4 + 2, none⟩ = some (.int .i64 p.1.state) := row_cell HRr.out.own rfl j p hp 2 _ rfl
      have Hs := Lib.hid (op7_step hp)
      generalize op7 (l.take j) = q at *
      by_cases hs : p.1.state = 1
      · rw [hs] at c2
        have hq : op7 (l.take (j + 1)) = q + 1 := by rw [Hs.out, if_pos hs]
        have Hq := Lib.hid hq
        clear hp hs hq
        go_wp2_with fail
        go_roundw
        case rel => exact ⟨j + 1, by omega, by go_num, by rw [Hq.out]; go_num, HRr.out, HXr.out, HBr.out⟩
        case measure => simp [intOf]; omega
      · have hs' : (p.1.state == 1) = false := by simpa using hs
        have hq : op7 (l.take (j + 1)) = q := by rw [Hs.out, if_neg hs]; rfl
        have Hq := Lib.hid hq
        clear hp hs hq
        go_wp2_with fail
        go_roundw
        case rel => exact ⟨j + 1, by omega, by go_num, by rw [Hq.out], HRr.out, HXr.out, HBr.out⟩
        case measure => simp [intOf]; omega
    · obtain rfl : j = l.length := by omega
      rw [List.take_length]
      go_wp2_with fail
      go_ret
      exact ⟨rfl, HBr.out⟩
end Go.Proofs.Ytajkajgnjcnolaa

