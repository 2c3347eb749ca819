import Derived.Test.YtajkajgnjcnolaaMo34
import Derived.Test.YtajkajgnjcnolaaMo25
import Derived.Test.YtajkajgnjcnolaaMo27
import Derived.RangeFuncCalls
import Derived.Test.YtajkajgnjcnolaaMo26
import Derived.Test.YtajkajgnjcnolaaMo35
import Derived.RangeFuncFrom
import Derived.Sort.CutIn
namespace Go.Proofs.Ytajkajgnjcnolaa
open Go.RowKit Go.Maps Go.Shelf
set_option linter.unusedVariables false
set_option linter.unnecessarySimpa false
set_option linter.unusedSimpArgs false
def nrE (x : EvR) : EvR := ⟨x.at_, x.kind, x.zone, x.off, nrm x.p⟩
theorem nrE_of {x : EvR} (h : EvOk x) : nrE x = x := by unfold nrE; rw [nrm_of h.len]
theorem nrE_len (x : EvR) : (nrE x).p.length = 64 := nrm_length _
def encV (x : EvR) : Array Value := #[.agg (evA (nrE x))]
theorem RdE.same {T : TypeId} {lo : Nat} {w w' : World} {v : Value} {es : List EvR} (h : RdE T lo w v es) (k : ∀ g, v.ownBlock = some g → w'.heap[g]? = w.heap[g]?) : RdE T lo w' v es := by
  obtain ⟨hok, a, cap, rfl, h2, h3, h4, h5⟩ := h
  refine ⟨hok, a, cap, rfl, h2, h3, fun g hg => ⟨(h4 g hg).1, ?_⟩, fun hne => ?_⟩
  · obtain ⟨cur, hb⟩ := (h4 g hg).2
    exact ⟨cur, (k g hg).trans hb⟩
  · obtain ⟨g, off, rfl, hc⟩ := h5 hne
    have hg : (Value.slice (some ⟨g, off, none⟩) es.length cap).ownBlock = some g := rfl
    obtain ⟨cur, hb⟩ := (h4 g hg).2
    have hb' : Blk w' g T cur := (k g hg).trans hb
    refine ⟨g, off, rfl, fun i e he j u hu => ?_⟩
    have h6 := hc i e he j u hu
    rw [hb.cell] at h6
    exact (hb'.cell _).trans h6
theorem KpF.ltF {F : Nat → Prop} {W W' : World} (h : KpF F W W') {i : Nat} (hi : F i) (hl : i < W.heap.size) : i < W'.heap.size := by
  have h1 := h i hi
  rw [Array.getElem?_eq_getElem hl] at h1
  exact (Array.getElem?_eq_some_iff.1 h1).1
theorem KpF.put {F : Nat → Prop} {w : World} (hF : ∀ i, F i → i < w.heap.size) (W : World) (l : Nat) (o o' : Obj) (hl : w.heap.size ≤ l) (h : W.heap[l]? = some o) (_ : o.isCells = false) (_ : o.isWalk = false) : KpF F W (W.putObj l o') := fun i hi => by
  have := hF i hi
  show (W.heap.setIfInBounds l o')[i]? = _
  rw [Array.getElem?_setIfInBounds_ne (by omega)]
section
variable {F : Fence} {n : Nat} {P : Program} {w : World} {ops : Array Oper} {rest : List Oper} {o : Oper} {a : Act} {Q : Exit → Act → World → Prop}
theorem wplIn_load_v (hg : o.guard = none) (ty : TypeId) (x : Operand) (ho : o.op = .load ty x) (b i : Nat) (hx : a.eval x = .pointer (some ⟨b, i, none⟩)) (cs : Array Value) (d : TypeDesc) (hc : w.rangeAt b i cs.toList)
    (hu : P.underlying ty = some d) (hd : d.isRow = true) (hi : (P.info? ty).map (·.size) = some cs.size) (h : wpListIn F n P ops Q rest (a.put o.dst (.agg cs)) w) : wpListIn F n P ops Q (o :: rest) a w :=
  wplIn_value hg _ (by simp [Oper.about, ho]) (by rw [ho]; intro c h; cases h) (exec_load_v ty x ho b i hx cs d hc hu hd hi) h
theorem wplIn_run (hg : o.guard = none) (v : Value) (hab : o.about P w a.eval = none) (hnd : ∀ c, o.op ≠ .defer c) (hrun : (execOp a.eval o).run P w = .ok (.value v) w) (h : wpListIn F n P ops Q rest (a.put o.dst v) w) : wpListIn F n P ops Q (o :: rest) a w := wplIn_value hg v hab hnd hrun h
end
set_option maxRecDepth 100000 in
set_option maxHeartbeats 2000000 in
theorem peach (n : Nat) (hn : 1 ≤ n) (l : Nat) (J Jx : List EvR → World → Prop) (W : World) {lo c : Nat} {a : Option Addr} {es : List EvR} {F : Nat → Prop} (hJ : AbidesFrom W.heap.size J) (hr : RdE 37 lo W (.slice a es.length c) es) (hF : ∀ g, (Value.slice a es.length c).ownBlock = some g → F g) (hlt : ∀ i, F i → i < W.heap.size) (hl : es.length ≤ 1000000)
    (hY : ∀ pre x W1, J pre W1 → pre.length < es.length → YieldAt Fence.wide (n - 1) Try.prog l (encV x) W1 fun e W' => (e = .returned (.bool true) ∧ J (pre ++ [x]) W' ∧ KpF F W1 W') ∨ (e = .returned (.bool false) ∧ Jx (pre ++ [x]) W'))
    (h0 : J [] W) :
    CallsIn Fence.wide n Try.prog 48 #[.slice a es.length c, .func (.yield l) #[] #[]] W fun e W' => (∃ v, e = .returned v) ∧ ((∃ ys, ys = es ∧ J ys W') ∨ (∃ pre, pre <+: es ∧ Jx pre W')) := by
  have Hr := Lib.hid hr
  have HF := Lib.hid hF
  have Hlt := Lib.hid hlt
  have HY := Lib.hid hY
  have HJ := Lib.hid hJ
  have hzv := Try.zeroEv
  clear hr hF hlt hY hJ
  refine callsIn_of_wp Try.func48 rfl trivial ?_ rfl
  simp only [Try.ntmps48, List.size_toArray, List.length_cons, List.length_nil, Nat.reduceAdd, Nat.reduceSub, Array.replicate_succ, Array.replicate_zero, List.push_toArray, List.append_toArray, List.nil_append, List.cons_append]
  gi_wp2
  gi_loopw [8] (fun i wr => ∃ k : Nat, k ≤ es.length ∧ i = .int .i64 k ∧ J (es.take k) wr ∧ KpF F W wr) (fun i _ => es.length - (intOf i).toNat)
  case atStart => exact ⟨0, Nat.zero_le _, rfl, h0, KpF.refl _ _⟩
  case round =>
    obtain ⟨k, hk, rfl, hJk, hK⟩ := hrel
    by_cases hlt : k < es.length
    · obtain ⟨x, hx⟩ : ∃ x, es[k]? = some x := ⟨_, List.getElem?_eq_getElem hlt⟩
      have hrd := Hr.out.same (w' := wr) (fun g hg => hK g (HF.out g hg))
      obtain ⟨g, off, c', hv, hrg, hxo⟩ := hrd.at_ hx
      obtain ⟨rfl, -, rfl⟩ : a = some ⟨g, off, none⟩ ∧ True ∧ c = c' := by simpa using hv
      have He : Hid (es.take (k + 1) = es.take k ++ [x]) := Lib.hid (by rw [List.take_add_one, hx]; rfl)
      have HJ2 : Hid (J (es.take k) (wr.alloc (Obj.cells (evA x) 37))) := Lib.hid (HJ.out _ _ _ none hJk (World.grownBy_alloc wr _ none) (fun r e => by cases e))
      have HK : Hid (KpF F W (wr.alloc (Obj.cells (evA x) 37))) := Lib.hid (hK.trans (KpF.alloc (fun i hi => hK.ltF hi (Hlt.out i hi)) _))
      obtain ⟨fn, tmps, assign, body, hy, hR⟩ := HY.out _ x _ HJ2.out (by rw [List.length_take, Nat.min_eq_left (Nat.le_of_lt hlt)]; exact hlt)
      unfold encV at hy
      rw [nrE_of hxo] at hy
      have HX := Lib.hid (Blk.new wr 37 (evA x))
      have Hrg := Lib.hid hrg
      have Hxo := Lib.hid hxo
      clear hK hrg hxo hJk hrd hv hx
      gi_wp2_with (first | (refine wplIn_run rfl (.pointer (some ⟨g, off + k * 68, none⟩)) (by simp [Oper.about]) (by intro c h; cases h) (exec_indexO elEv _ _ rfl g off es.length c k rfl rfl hlt) ?_; go_frame) | (refine wplIn_load_v rfl _ _ rfl g (off + k * 68) rfl (evA x) _ Hrg.out Try.underlying37 rfl (info_evA Hxo.out.len) ?_; go_frame) | (refine wplIn_store_new rfl _ _ rfl (evA x) wr 37 (evA ev0) rfl rfl rfl (info_evA Hxo.out.len) (by rw [evA_size Hxo.out.len, evA_size (zeros_length 64)]) (evA_one _) ?_; go_frame) | (refine wplIn_load rfl _ rfl (wr.heap.size) rfl _ _ _ (HX.out) Try.underlying37 rfl (info_evA Hxo.out.len) ?_; go_frame))
      refine hR.mono ?_
      rintro e W3 (⟨rfl, hJ3, hk3⟩ | ⟨rfl, hJx3⟩)
      · gi_wp2
        go_roundw
        case rel => exact ⟨k + 1, by omega, by go_num, by rw [He.out]; exact hJ3, HK.out.trans hk3⟩
        case measure => simp [intOf]; omega
      · gi_wp2
        refine bodyPost_ret (results_none rfl _ _ _) rfl ?_
        exact ⟨⟨_, rfl⟩, .inr ⟨_, by rw [← He.out]; exact List.take_prefix _ _, hJx3⟩⟩
    · obtain rfl : k = es.length := by omega
      rw [List.take_of_length_le (Nat.le_refl _)] at hJk
      gi_wp2
      go_end0
      exact ⟨⟨_, rfl⟩, .inl ⟨_, rfl, hJk⟩⟩
theorem AbidesFrom.drewN {W : World} {J : List EvR → World → Prop} (h : AbidesFrom W.heap.size J) : AbidesFrom W.drew.heap.size J := h
theorem own_from {a0 ca : Option Addr} {c0 cc n m k : Nat} {g : Nat} (hcv : Value.slice (if c0 = k then a0 else a0.map (·.add (k * 68))) (n - k) (c0 - k) = .slice ca m cc) (hg : (Value.slice ca m cc).ownBlock = some g) : (Value.slice a0 n c0).ownBlock = some g := by
  rw [← hcv] at hg
  cases a0 with
  | none => split at hg <;> simp [Value.ownBlock] at hg
  | some ad =>
    split at hg
    · simpa [Value.ownBlock] using hg
    · have e9 : (ad.add (k * 68)).block = ad.block := by unfold Addr.add; split <;> rfl
      simpa [Value.ownBlock, e9] using hg
set_option maxRecDepth 100000 in
set_option maxHeartbeats 2000000 in
theorem pcom_w {lo X Bp : Nat} {W : World} {S : St8} {F : Nat → Prop} (l : Nat) (J Jx : List EvR → World → Prop) (hJ : AbidesFrom W.heap.size J) (hp : pdAt lo W X S F) (hB : Blk W Bp 24 #[.pointer (some ⟨X, 0, none⟩)]) (hn : S.R.h.length + S.R.cs.length ≤ 1000000)
    (hY : ∀ pre x W1, J pre W1 → pre.length < S.R.cs.length → YieldAt Fence.wide (7 - 1) Try.prog l (encV x) W1 fun e W' => (e = .returned (.bool true) ∧ J (pre ++ [x]) W' ∧ KpF F W1 W') ∨ (e = .returned (.bool false) ∧ Jx (pre ++ [x]) W'))
    (h0 : J [] W) :
    Calls Try.prog 47 #[.func (.yield l) #[] #[], .pointer (some ⟨Bp, 0, none⟩)] W fun e W' => (∃ v, e = .returned v) ∧ ((∃ ys, ys = S.R.cs ∧ J ys W') ∨ (∃ pre, pre <+: S.R.cs ∧ Jx pre W')) := by
  have HY := Lib.hid hY
  have HJ := Lib.hid (AbidesFrom.drewN (J := J) hJ)
  have HJ0 : Hid (J [] W.drew) := Lib.hid (hJ _ _ _ none h0 ⟨rfl, rfl, rfl, Nat.le_refl _, fun _ _ _ => rfl⟩ (fun r e => by cases e))
  have HBx := Lib.hid hB
  obtain ⟨D, vz, ve, lz, mb, n, f, h, rfl⟩ := hp
  have Hlt : Hid (∀ i, PdF X D vz ve lz mb i → i < W.drew.heap.size) := Lib.hid (fun i hi => h.lt hi)
  have Hl : Hid (S.R.cs.length ≤ 1000000) := Lib.hid (by omega)
  obtain ⟨a0, c0, rfl, hle, hmx⟩ := h.slice
  have HX := Lib.hid h.blk
  obtain ⟨ca, cc, hcv, hcr, hle0, hle1⟩ := h.ev.rd.from
  have Hcv := Lib.hid hcv
  have Hcr := Lib.hid hcr
  have HFo : Hid (∀ g, (Value.slice ca S.R.cs.length cc).ownBlock = some g → PdF X D vz (.slice a0 (S.R.h ++ S.R.cs).length c0) lz mb g) := Lib.hid (fun g hg => .inr (.inr (.inl (own_from hcv hg))))
  clear hcv hcr
  generalize PdF X D vz (.slice a0 (S.R.h ++ S.R.cs).length c0) lz mb = F at *
  clear h hJ h0 hY hB hn
  go_enter Try.func47, Try.ntmps47
  go_upto_region 0 with fail
  refine wp_regionM (S := fun w' => Kept (fun _ => False) W w') 10 (by kernel_rfl) ?_
  change wpAnyM _ _ _ _ _ _ _ _ _ (World.drew _)
  have hS : Kept (fun _ => False) W W.drew := (Kept.refl _ _).drew
  have hB0 : Below W.heap.size W W.drew := (Below.refl _ _).drew
  refine takeM [1, 2, 3, 8, 10] hS (i := 0) (d := 3) (v := .pointer (some ⟨X, 0, none⟩)) rfl rfl (by kernel_rfl) (by kernel_rfl) (by kernel_rfl) (by kernel_rfl) (fun _ _ _ h => h) (Or.inl ⟨by kernel_rfl, fun w' hw' => by exact exec_cellv _ rfl ⟨Bp, 0, none⟩ rfl (.pointer (some ⟨X, 0, none⟩)) Try.underlying24 rfl (((HBx.out.kept hw' (fun h => h)).cell 0).trans (rfl))⟩) ?_
  refine takeM [2, 3, 8, 10] hS (i := 1) (d := 4) (v := .pointer (some ⟨X, 0, none⟩)) rfl rfl (by kernel_rfl) (by kernel_rfl) (by kernel_rfl) (by kernel_rfl) (fun _ _ _ h => h) (Or.inl ⟨by kernel_rfl, fun w' hw' => by kernel_rfl⟩) ?_
  refine takeM [3, 8, 10] hS (i := 2) (d := 5) (v := .pointer (some ⟨X, 1, none⟩)) rfl rfl (by kernel_rfl) (by kernel_rfl) (by kernel_rfl) (by kernel_rfl) (fun _ _ _ h => h) (Or.inl ⟨by kernel_rfl, fun w' hw' => by kernel_rfl⟩) ?_
  refine takeM [8, 10] hS (i := 3) (d := 6) (v := .slice (a0) ((S.R.h ++ S.R.cs).length) (c0)) rfl rfl (by kernel_rfl) (by kernel_rfl) (by kernel_rfl) (by kernel_rfl) (fun _ _ _ h => h) (Or.inl ⟨by kernel_rfl, fun w' hw' => by exact exec_cellv _ rfl ⟨X, 1, none⟩ rfl (.slice (a0) ((S.R.h ++ S.R.cs).length) (c0)) Try.underlying88 rfl (((HX.out.kept hw' (fun h => h)).cell 1).trans (rfl))⟩) ?_
  try go_frame
  refine takeM [5, 6, 7, 8, 10] hS (i := 4) (d := 7) (v := .pointer (some ⟨X, 0, none⟩)) rfl rfl (by kernel_rfl) (by kernel_rfl) (by kernel_rfl) (by kernel_rfl) (fun _ _ _ h => h) (Or.inl ⟨by kernel_rfl, fun w' hw' => by exact exec_cellv _ rfl ⟨Bp, 0, none⟩ rfl (.pointer (some ⟨X, 0, none⟩)) Try.underlying24 rfl (((HBx.out.kept hw' (fun h => h)).cell 0).trans (rfl))⟩) ?_
  refine takeM [6, 7, 8, 10] hS (i := 5) (d := 8) (v := .pointer (some ⟨X, 0, none⟩)) rfl rfl (by kernel_rfl) (by kernel_rfl) (by kernel_rfl) (by kernel_rfl) (fun _ _ _ h => h) (Or.inl ⟨by kernel_rfl, fun w' hw' => by kernel_rfl⟩) ?_
  refine takeM [7, 8, 10] hS (i := 6) (d := 9) (v := .pointer (some ⟨X, 2, none⟩)) rfl rfl (by kernel_rfl) (by kernel_rfl) (by kernel_rfl) (by kernel_rfl) (fun _ _ _ h => h) (Or.inl ⟨by kernel_rfl, fun w' hw' => by kernel_rfl⟩) ?_
  refine takeM [8, 10] hS (i := 7) (d := 10) (v := .int .i64 ((S.R.h.length : Nat))) rfl rfl (by kernel_rfl) (by kernel_rfl) (by kernel_rfl) (by kernel_rfl) (fun _ _ _ h => h) (Or.inl ⟨by kernel_rfl, fun w' hw' => by exact exec_cell _ rfl ⟨X, 2, none⟩ rfl _ Try.underlying3 (((HX.out.kept hw' (fun h => h)).cell 2).trans (rfl))⟩) ?_
  try go_frame
  refine takeM [10] hS (i := 8) (d := 11) (v := .slice (ca) (S.R.cs.length) (cc)) rfl rfl (by kernel_rfl) (by kernel_rfl) (by kernel_rfl) (by kernel_rfl) (fun _ _ _ h => h) (Or.inl ⟨by kernel_rfl, fun w' hw' => by exact (exec_sliceF elEv _ _ rfl a0 (S.R.h ++ S.R.cs).length c0 S.R.h.length rfl rfl hle0 hle1).trans (by rw [Hcv.out])⟩) ?_
  refine takeM [10] hS (i := 9) (d := 12) (v := .func (.yield l) #[] #[]) rfl rfl (by kernel_rfl) (by kernel_rfl) (by kernel_rfl) (by kernel_rfl) (fun _ _ _ h => h) (Or.inl ⟨by kernel_rfl, fun w' hw' => by kernel_rfl⟩) ?_
  try go_frame
  refine nextM (i := 10) rfl (by kernel_rfl) (by kernel_rfl) (fun K' hK => ?_)
  go_wp2_with fail
  refine (callsIn_wide.1 (peach 7 (by decide) l J Jx _ (F := F) HJ.out (Hcr.out.below hB0) HFo.out Hlt.out Hl.out HY.out HJ0.out)).mono ?_
  rintro en Wc1 ⟨⟨v9, rfl⟩, hpost⟩
  have HPo := Lib.hid hpost
  refine hK.out _ _ ⟨fun h9 => absurd rfl h9.1, ?_⟩
  clear hK K' hS hB0 hpost
  try go_frame
  refine wpAnyM_done (by kernel_rfl) ?_ _
  try go_frame
  go_wp2_with fail
  first | go_end0 | refine bodyPost_ret (results_none rfl _ _ _) rfl ?_
  exact ⟨⟨_, rfl⟩, HPo.out⟩
theorem pcom_gives {lo X Bp : Nat} {w : World} {S : St8} {F : Nat → Prop} (hp : pdAt lo w X S F) (hB : Blk w Bp 24 #[.pointer (some ⟨X, 0, none⟩)]) (hn : S.R.h.length + S.R.cs.length ≤ 1000000) :
    SeqStopsK Fence.wide 7 Try.prog 47 #[.pointer (some ⟨Bp, 0, none⟩)] encV (KpF F) (fun ys => ys = S.R.cs) (fun pre => pre <+: S.R.cs) S.R.cs.length w := by
  intro l J Jx W hW hJ _ hY h0
  exact callsIn_wide.2 (pcom_w l J Jx hJ (pdAt.below hp hW) (hB.below hW hB.lt) hn hY h0)
set_option maxRecDepth 100000 in
set_option maxHeartbeats 2000000 in
theorem pcom_call {lo X : Nat} {w : World} {S : St8} {F : Nat → Prop} (hp : pdAt lo w X S F) : Calls Try.prog 19 #[.pointer (some ⟨X, 0, none⟩)] w fun e w' => e = .returned (.func (.func 47) #[] #[.pointer (some ⟨w.heap.size, 0, none⟩)]) ∧ w' = w.alloc (Obj.cells #[.pointer (some ⟨X, 0, none⟩)] 24) := by
  go_enter Try.func19, Try.ntmps19
  go_wp2_with fail
  go_ret
  exact ⟨rfl, rfl⟩
set_option maxRecDepth 100000 in
set_option maxHeartbeats 2000000 in
theorem phpd_w {lo X Bp : Nat} {W : World} {S : St8} {F : Nat → Prop} (l : Nat) (J Jx : List EvR → World → Prop) (hJ : AbidesFrom W.heap.size J) (hp : pdAt lo W X S F) (hB : Blk W Bp 24 #[.pointer (some ⟨X, 0, none⟩)]) (hn : S.R.h.length + S.R.cs.length ≤ 1000000)
    (hY : ∀ pre x W1, J pre W1 → pre.length < S.R.h.length → YieldAt Fence.wide (7 - 1) Try.prog l (encV x) W1 fun e W' => (e = .returned (.bool true) ∧ J (pre ++ [x]) W' ∧ KpF F W1 W') ∨ (e = .returned (.bool false) ∧ Jx (pre ++ [x]) W'))
    (h0 : J [] W) :
    Calls Try.prog 49 #[.func (.yield l) #[] #[], .pointer (some ⟨Bp, 0, none⟩)] W fun e W' => (∃ v, e = .returned v) ∧ ((∃ ys, ys = S.R.h ∧ J ys W') ∨ (∃ pre, pre <+: S.R.h ∧ Jx pre W')) := by
  have HY := Lib.hid hY
  have HJ := Lib.hid (AbidesFrom.drewN (J := J) hJ)
  have HJ0 : Hid (J [] W.drew) := Lib.hid (hJ _ _ _ none h0 ⟨rfl, rfl, rfl, Nat.le_refl _, fun _ _ _ => rfl⟩ (fun r e => by cases e))
  have HBx := Lib.hid hB
  obtain ⟨D, vz, ve, lz, mb, n, f, h, rfl⟩ := hp
  have Hlt : Hid (∀ i, PdF X D vz ve lz mb i → i < W.drew.heap.size) := Lib.hid (fun i hi => h.lt hi)
  have Hl : Hid (S.R.h.length ≤ 1000000) := Lib.hid (by omega)
  obtain ⟨a0, c0, rfl, hle, hmx⟩ := h.slice
  have HX := Lib.hid h.blk
  obtain ⟨hcr, hle1⟩ := h.ev.rd.to
  have Hcr := Lib.hid hcr
  have HFo : Hid (∀ g, (Value.slice a0 S.R.h.length c0).ownBlock = some g → PdF X D vz (.slice a0 (S.R.h ++ S.R.cs).length c0) lz mb g) := Lib.hid (fun g hg => .inr (.inr (.inl (by cases a0 with | none => simp [Value.ownBlock] at hg | some ad => exact hg))))
  clear hcr
  generalize PdF X D vz (.slice a0 (S.R.h ++ S.R.cs).length c0) lz mb = F at *
  clear h hJ h0 hY hB hn
  go_enter Try.func49, Try.ntmps49
  go_upto_region 0 with fail
  refine wp_regionM (S := fun w' => Kept (fun _ => False) W w') 10 (by kernel_rfl) ?_
  change wpAnyM _ _ _ _ _ _ _ _ _ (World.drew _)
  have hS : Kept (fun _ => False) W W.drew := (Kept.refl _ _).drew
  have hB0 : Below W.heap.size W W.drew := (Below.refl _ _).drew
  refine takeM [1, 2, 3, 8, 10] hS (i := 0) (d := 3) (v := .pointer (some ⟨X, 0, none⟩)) rfl rfl (by kernel_rfl) (by kernel_rfl) (by kernel_rfl) (by kernel_rfl) (fun _ _ _ h => h) (Or.inl ⟨by kernel_rfl, fun w' hw' => by exact exec_cellv _ rfl ⟨Bp, 0, none⟩ rfl (.pointer (some ⟨X, 0, none⟩)) Try.underlying24 rfl (((HBx.out.kept hw' (fun h => h)).cell 0).trans (rfl))⟩) ?_
  refine takeM [2, 3, 8, 10] hS (i := 1) (d := 4) (v := .pointer (some ⟨X, 0, none⟩)) rfl rfl (by kernel_rfl) (by kernel_rfl) (by kernel_rfl) (by kernel_rfl) (fun _ _ _ h => h) (Or.inl ⟨by kernel_rfl, fun w' hw' => by kernel_rfl⟩) ?_
  refine takeM [3, 8, 10] hS (i := 2) (d := 5) (v := .pointer (some ⟨X, 1, none⟩)) rfl rfl (by kernel_rfl) (by kernel_rfl) (by kernel_rfl) (by kernel_rfl) (fun _ _ _ h => h) (Or.inl ⟨by kernel_rfl, fun w' hw' => by kernel_rfl⟩) ?_
  refine takeM [8, 10] hS (i := 3) (d := 6) (v := .slice (a0) ((S.R.h ++ S.R.cs).length) (c0)) rfl rfl (by kernel_rfl) (by kernel_rfl) (by kernel_rfl) (by kernel_rfl) (fun _ _ _ h => h) (Or.inl ⟨by kernel_rfl, fun w' hw' => by exact exec_cellv _ rfl ⟨X, 1, none⟩ rfl (.slice (a0) ((S.R.h ++ S.R.cs).length) (c0)) Try.underlying88 rfl (((HX.out.kept hw' (fun h => h)).cell 1).trans (rfl))⟩) ?_
  try go_frame
  refine takeM [5, 6, 7, 8, 10] hS (i := 4) (d := 7) (v := .pointer (some ⟨X, 0, none⟩)) rfl rfl (by kernel_rfl) (by kernel_rfl) (by kernel_rfl) (by kernel_rfl) (fun _ _ _ h => h) (Or.inl ⟨by kernel_rfl, fun w' hw' => by exact exec_cellv _ rfl ⟨Bp, 0, none⟩ rfl (.pointer (some ⟨X, 0, none⟩)) Try.underlying24 rfl (((HBx.out.kept hw' (fun h => h)).cell 0).trans (rfl))⟩) ?_
  refine takeM [6, 7, 8, 10] hS (i := 5) (d := 8) (v := .pointer (some ⟨X, 0, none⟩)) rfl rfl (by kernel_rfl) (by kernel_rfl) (by kernel_rfl) (by kernel_rfl) (fun _ _ _ h => h) (Or.inl ⟨by kernel_rfl, fun w' hw' => by kernel_rfl⟩) ?_
  refine takeM [7, 8, 10] hS (i := 6) (d := 9) (v := .pointer (some ⟨X, 2, none⟩)) rfl rfl (by kernel_rfl) (by kernel_rfl) (by kernel_rfl) (by kernel_rfl) (fun _ _ _ h => h) (Or.inl ⟨by kernel_rfl, fun w' hw' => by kernel_rfl⟩) ?_
  refine takeM [8, 10] hS (i := 7) (d := 10) (v := .int .i64 ((S.R.h.length : Nat))) rfl rfl (by kernel_rfl) (by kernel_rfl) (by kernel_rfl) (by kernel_rfl) (fun _ _ _ h => h) (Or.inl ⟨by kernel_rfl, fun w' hw' => by exact exec_cell _ rfl ⟨X, 2, none⟩ rfl _ Try.underlying3 (((HX.out.kept hw' (fun h => h)).cell 2).trans (rfl))⟩) ?_
  try go_frame
  refine takeM [10] hS (i := 8) (d := 11) (v := .slice (a0) (S.R.h.length) (c0)) rfl rfl (by kernel_rfl) (by kernel_rfl) (by kernel_rfl) (by kernel_rfl) (fun _ _ _ h => h) (Or.inl ⟨by kernel_rfl, fun w' hw' => by exact exec_sliceT elEv _ _ rfl a0 (S.R.h ++ S.R.cs).length c0 S.R.h.length rfl rfl hle1⟩) ?_
  refine takeM [10] hS (i := 9) (d := 12) (v := .func (.yield l) #[] #[]) rfl rfl (by kernel_rfl) (by kernel_rfl) (by kernel_rfl) (by kernel_rfl) (fun _ _ _ h => h) (Or.inl ⟨by kernel_rfl, fun w' hw' => by kernel_rfl⟩) ?_
  try go_frame
  refine nextM (i := 10) rfl (by kernel_rfl) (by kernel_rfl) (fun K' hK => ?_)
  go_wp2_with fail
  refine (callsIn_wide.1 (peach 7 (by decide) l J Jx _ (F := F) HJ.out (Hcr.out.below hB0) HFo.out Hlt.out Hl.out HY.out HJ0.out)).mono ?_
  rintro en Wc1 ⟨⟨v9, rfl⟩, hpost⟩
  have HPo := Lib.hid hpost
  refine hK.out _ _ ⟨fun h9 => absurd rfl h9.1, ?_⟩
  clear hK K' hS hB0 hpost
  try go_frame
  refine wpAnyM_done (by kernel_rfl) ?_ _
  try go_frame
  go_wp2_with fail
  first | go_end0 | refine bodyPost_ret (results_none rfl _ _ _) rfl ?_
  exact ⟨⟨_, rfl⟩, HPo.out⟩
theorem phpd_gives {lo X Bp : Nat} {w : World} {S : St8} {F : Nat → Prop} (hp : pdAt lo w X S F) (hB : Blk w Bp 24 #[.pointer (some ⟨X, 0, none⟩)]) (hn : S.R.h.length + S.R.cs.length ≤ 1000000) :
    SeqStopsK Fence.wide 7 Try.prog 49 #[.pointer (some ⟨Bp, 0, none⟩)] encV (KpF F) (fun ys => ys = S.R.h) (fun pre => pre <+: S.R.h) S.R.h.length w := by
  intro l J Jx W hW hJ _ hY h0
  exact callsIn_wide.2 (phpd_w l J Jx hJ (pdAt.below hp hW) (hB.below hW hB.lt) hn hY h0)
set_option maxRecDepth 100000 in
set_option maxHeartbeats 2000000 in
theorem phpd_call {lo X : Nat} {w : World} {S : St8} {F : Nat → Prop} (hp : pdAt lo w X S F) : Calls Try.prog 20 #[.pointer (some ⟨X, 0, none⟩)] w fun e w' => e = .returned (.func (.func 49) #[] #[.pointer (some ⟨w.heap.size, 0, none⟩)]) ∧ w' = w.alloc (Obj.cells #[.pointer (some ⟨X, 0, none⟩)] 24) := by
  go_enter Try.func20, Try.ntmps20
  go_wp2_with fail
  go_ret
  exact ⟨rfl, rfl⟩
end Go.Proofs.Ytajkajgnjcnolaa

namespace Go.Proofs.Ytajkajgnjcnolaa
open Go.RowKit
set_option linter.unusedVariables false
set_option linter.unusedSimpArgs false
section
variable {P : Program} {md : Region.Mode} {ops : Array Oper} {Q : Exit → Act → World → Prop} {l n : Nat}
def noDefer (ops : Array Oper) : Bool := ops.all fun o => match o.op with | .defer _ => false | _ => true
theorem noDefer_at (h : noDefer ops = true) {i : Nat} {o : Oper} (ho : ops[i]? = some o) : ∀ c, o.op ≠ .defer c := by
  intro c e
  unfold noDefer at h
  have h1 := (Array.all_eq_true_iff_forall_mem.1 h) o (Array.mem_of_getElem? ho)
  rw [e] at h1
  cases h1
theorem wpIn_of_wp {o : Oper} {a : Act} {w : World} {K : Act → World → Prop} (hnd : ∀ c, o.op ≠ .defer c) (h : Oper.wp P o a w K Q) : Oper.wpIn (Fence.wide.inRound l) n P o a w K Q := by
  unfold Oper.wpIn
  refine ⟨fun f _ => trivial, ?_⟩
  rw [Oper.semAt_plain _ _ _ hnd]
  unfold Oper.wp at h
  revert h
  generalize (execOp a.eval o).run P w = r
  intro h
  match r, h with
  | .ok (.value v) w', h => exact h
  | .ok .skip w', h => exact h
  | .ok (.defer d) w', h => exact h
  | .ok (.enter f args) w', h => exact ⟨fun h9 => (by cases h9), CallsIn.inRound l (callsIn_wide.2 h)⟩
  | .ok (.row row args) w', h => exact ⟨fun h9 => (by cases h9), fun c cs _ => let ⟨v, w2, r, s⟩ := h c cs; ⟨v, w2, r, stepsIn_wide.2 s⟩⟩
  | .ok (.round a b c d e) w', h => exact h.elim
  | .halt (.panic v) w', h => exact h
theorem wpOpIn_of {K : Act → World → Prop} {i : Nat} {a : Act} {w : World} (hd : noDefer ops = true) (hno : ¬ LetsOut Q) (h : wpOp P ops Q i K a w) : wpOpIn (Fence.wide.inRound l) n P ops Q i K a w := by
  unfold wpOp at h
  unfold wpOpIn
  cases hoi : ops[i]? with
  | none => simp only [hoi] at h ⊢; exact h
  | some o =>
    simp only [hoi] at h ⊢
    by_cases hw : Region.wanted o (yielded ops a.tmps) = true
    · rw [if_pos hw] at h ⊢
      exact wpIn_of_wp (noDefer_at hd hoi) (h.resolve_right (fun h9 => hno h9.2))
    · rw [if_neg hw] at h ⊢
      exact ⟨fun _ _ => trivial, h⟩
theorem wpAnyIn_of (hd : noDefer ops = true) (hno : ¬ LetsOut Q) : ∀ (fuel : Nat) (listed : Array Bool) (a : Act) (w : World), wpAny P md ops Q fuel listed a w → wpAnyIn (Fence.wide.inRound l) n P md ops Q fuel listed a w
  | 0, _, _, _, h => h
  | fuel + 1, _, _, _, h => ⟨h.1, fun i hi => wpOpIn_of hd hno (wpOp_mono (fun a' w' h' => wpAnyIn_of hd hno fuel _ a' w' h') (h.2 i hi))⟩
theorem wpIn_region_heldIn {id : Nat} {a : Act} {w : World} {S : World → Prop} (hm : P.follows .mixedOrders = true) (hd : noDefer ops = true) (hno : ¬ LetsOut Q) (h : wpAnyH P .any ops Q S ops.size (Array.replicate ops.size false) a w.drew) : (Code.region id ops true).wpIn (Fence.wide.inRound l) n P Q a w :=
  wpIn_region_any hm (wpAnyIn_of hd hno _ _ _ _ (wpAny_of_held _ _ _ _ h))
end
end Go.Proofs.Ytajkajgnjcnolaa

namespace Go.Proofs.Ytajkajgnjcnolaa
open Go.RowKit
set_option linter.unusedVariables false
set_option linter.unnecessarySimpa false
set_option linter.unusedSimpArgs false
section
variable {P : Program} {w : World} {ops : Array Oper} {rest : List Oper} {o : Oper} {a : Act} {Q : Exit → Act → World → Prop}
end
end Go.Proofs.Ytajkajgnjcnolaa

namespace Go.Proofs.Ytajkajgnjcnolaa
open Go.RowKit
set_option linter.unusedVariables false
set_option linter.unnecessarySimpa false
set_option linter.unusedSimpArgs false
def LookI (zs : List ZsR) (k : Nat) (ss : List (List Nat)) (q : Nat) : Prop := ∃ z, zs[k]? = some z ∧ z.ss.length = ss.length ∧ ∀ i, q ≤ i → z.ss[i]? = ss[i]?
theorem LookI.start {zs : List ZsR} {k : Nat} {z : ZsR} (hz : zs[k]? = some z) : LookI zs k z.ss 0 := ⟨z, hz, rfl, fun _ _ => rfl⟩
structure LkI (w : World) (D : Nat) (vz : Value) (d : DvR) (l : List ZcR) (v : Value) (m : Nat) (ss : List (List Nat)) (W : World) : Prop where
  dv : DvAt w.heap.size W D vz d l
  B : Below w.heap.size w W
  row : W.ownsRow w.heap.size 34 64 v m (flat ss)
  away : ∀ g, v.ownBlock = some g → ¬ DvF D vz l g
theorem LkI.below {w W W' : World} {D : Nat} {vz v : Value} {d : DvR} {l : List ZcR} {m : Nat} {ss : List (List Nat)} (h : LkI w D vz d l v m ss W) (hb : Below W.heap.size W W') : LkI w D vz d l v m ss W' :=
  ⟨h.dv.below hb, h.B.trans (hb.mono h.B.size), ownK_below h.row hb, h.away⟩
theorem LkI.to {w W W' : World} {D : Nat} {vz v : Value} {d d' : DvR} {l : List ZcR} {m : Nat} {ss : List (List Nat)} {zs' : List ZsR} (h : LkI w D vz d l v m ss W) (hT : DvTo w.heap.size W D vz l d' zs' W') :
    ∃ l', LkI w D vz d' l' v m ss W' ∧ l'.map ZcR.z = zs' ∧ ∀ g t cs, Blk W g t cs → ¬ DvF D vz l g → Blk W' g t cs ∧ ¬ DvF D vz l' g := by
  have hB := hT.bel h.dv h.B (Nat.le_refl _)
  obtain ⟨l', k1, k2, k3, k4⟩ := hT
  have hn : ∀ g, g < W.heap.size → ¬ DvF D vz l g → ¬ DvF D vz l' g := fun g hg hn hi => by
    rcases k4 g hi with h1 | h1
    · exact hn h1
    · omega
  exact ⟨l', ⟨k1, hB, own_kept h.row k3 (fun g hg => h.away g hg), fun g hg => hn g (own_lt h.row hg) (h.away g hg)⟩, k2, fun g t cs hb hg => ⟨hb.kept k3 hg, hn g hb.lt hg⟩⟩
end Go.Proofs.Ytajkajgnjcnolaa

namespace Go.Proofs.Ytajkajgnjcnolaa
open Go.RowKit Go.Shelf
set_option linter.unusedVariables false
set_option linter.unnecessarySimpa false
set_option linter.unusedSimpArgs false
theorem cst8 {lo D : Nat} {w : World} {vz : Value} {d : DvR} {l : List ZcR} {i s : Int} (hs : stD (l.map ZcR.z) i = s) (h : DvAt lo w D vz d l) : Calls Try.prog 17 #[.pointer (some ⟨D, 0, none⟩), .int .i64 i] w fun e w' => e = .returned (.int .i64 s) ∧ Below w.heap.size w w' := by
  subst hs
  exact cst7 i h
theorem cln8 {lo D : Nat} {w : World} {vz : Value} {d : DvR} {l : List ZcR} {i s : Int} (hs : lnD (l.map ZcR.z) i = s) (h : DvAt lo w D vz d l) : Calls Try.prog 13 #[.pointer (some ⟨D, 0, none⟩), .int .i64 i] w fun e w' => e = .returned (.int .i64 s) ∧ Below w.heap.size w w' := by
  subst hs
  refine (cln7 i h).mono ?_
  rintro e w' ⟨rfl, rfl⟩
  exact ⟨rfl, Below.refl _ _⟩
theorem pdevP {lo X D mb n : Nat} {w : World} {S : St8} {vz ve : Value} {l : List ZcR} {f : Int × Int → Option (List Nat × Int)} (h : PdAt lo w X S D vz ve l mb n f) : Calls Try.prog 12 #[.pointer (some ⟨X, 0, none⟩)] w fun e w' => e = .returned (.pointer (some ⟨D, 0, none⟩)) ∧ w = w' := by
  have c0 := h.c0
  clear h
  go_enter Try.func12, Try.ntmps12
  go_wp2_with fail
  go_ret
  exact ⟨rfl, rfl⟩
end Go.Proofs.Ytajkajgnjcnolaa

