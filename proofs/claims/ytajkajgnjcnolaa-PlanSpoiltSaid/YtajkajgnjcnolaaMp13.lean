import Derived.Test.YtajkajgnjcnolaaMp08
import Derived.Recover
import Derived.Defers
import Derived.Test.YtajkajgnjcnolaaMp12
import Derived.Test.YtajkajgnjcnolaaMp02
import Derived.Test.YtajkajgnjcnolaaMp10
namespace Go.Proofs.Ytajkajgnjcnolaa
open Go.RowKit
set_option linter.unusedVariables false
set_option linter.unnecessarySimpa false
set_option linter.unusedSimpArgs false
theorem zchF1 (p q : Addr) (w : World) : CallsD Try.prog 96 #[.pointer (some p), .pointer (some q)] .returning w fun e u' w' => e = .returned (.tuple #[]) ∧ u' = .returning ∧ w' = w := by
  refine callsD_of_wpS Try.func96 rfl fun c₀ cs hu => ?_
  apply wpS_seq
  apply wpS_region
  simp [wpOpsS, go_sem, recoverD, hu, Try.ntmps96, Exit.thenS]
  refine wpS_cond (t := false) (by simp [Act.eval, Array.replicate]) ?_
  simp only [Bool.false_eq_true, if_false]
  refine wpS_of_wp (wp_skip ?_)
  cases c₀
  simp_all [bodyPostS, results, Try.results96]
set_option maxRecDepth 100000 in
set_option maxHeartbeats 2000000 in
theorem dsp1 {x p : List Nat} {b : Nat} {w : World} (hx : x.length = 64) (hp : p.length = 64) (hxb : ∀ c ∈ x, c < 256) (hpb : ∀ c ∈ p, c < 256) (hb : Blk w b 34 (bA p)) : Calls Try.prog 94 #[.agg (bA x), .pointer (some ⟨b, 0, none⟩)] w fun e w' => e = .returned (.agg (bA (zx x p 64))) ∧ Below w.heap.size w w' := by
  have hb0 := bthen (below_alloc w (Obj.cells (bA x) 34)) (below_alloc _ (Obj.cells (bA (zeros 64)) 34))
  have x0 := (Blk.new w 34 (bA x)).alloc (Obj.cells (bA (zeros 64)) 34)
  have x1 := Blk.new (w.alloc (Obj.cells (bA x) 34)) 34 (bA (zeros 64))
  rw [show (w.alloc (Obj.cells (bA x) 34)).heap.size = w.heap.size + 1 by simp] at x1
  have HP := Lib.hid (hb.below hb0 hb.lt)
  have Hbl := Lib.hid hb.lt
  have HB0 := Lib.hid hb0
  have X0 := Lib.hid x0
  have X1 := Lib.hid x1
  have H1 := Lib.hid hx
  have H2 := Lib.hid hp
  have H3 := Lib.hid hxb
  have H4 := Lib.hid hpb
  have hz64 := zero_secF
  clear hb hx hp hxb hpb hb0 x0 x1
  go_enter Try.func94, Try.ntmps94
  go_upto_region 1 with fail
  clear hz64
  generalize (w.alloc (Obj.cells (bA x) 34)).alloc (Obj.cells (bA (zeros 64)) 34) = w0 at *
  go_wp2_with (first | (refine wpl_load rfl _ rfl (w.heap.size) rfl _ _ _ (X0.out) Try.underlying34 rfl (info_sec H1.out) ?_; go_frame) | (refine wpl_load rfl _ rfl (b) rfl _ _ _ (HP.out) Try.underlying34 rfl (info_sec H2.out) ?_; go_frame))
  refine (xor_any x p _ H1.out H2.out H3.out H4.out).mono ?_
  rintro e w1 ⟨rfl, hb⟩
  have HB1 := Lib.hid (bthen HB0.out hb)
  have X2 := Lib.hid (X1.out.below hb X1.out.lt)
  clear hb
  go_wp2_with (first | (refine wpl_store rfl _ _ rfl (w.heap.size + 1) (bA (zx x p 64)) rfl rfl _ _ X2.out (info_sec (zx_length _ _ _)) (by rw [bA_size, bA_size, zeros_length, zx_length]) (bA_one _) ?_; intro w9 hSg hKg; have HSg := Lib.hid hSg; have HKg := Lib.hid hKg; clear hSg hKg; go_frame))
  exact bodyPost_ret (v := .agg (bA (zx x p 64))) (results_cell_row Try.results94 _ _ (w.heap.size + 1) 34 _ (0, 0) _ rfl HSg.out Try.underlying34 rfl (info_sec (zx_length _ _ _))) rfl ⟨rfl, bkept HB1.out (Nat.le_refl _) HKg.out (fun i hi h => by omega)⟩
set_option maxRecDepth 100000 in
set_option maxHeartbeats 2000000 in
theorem dtold {x p : List Nat} {b : Nat} {w : World} (hx : x.length = 64) (hp : p.length = 64) (hxb : ∀ c ∈ x, c < 256) (hpb : ∀ c ∈ p, c < 256) (hb : Blk w b 34 (bA p)) : Calls Try.prog 95 #[.func (.func 94) #[] #[.pointer (some ⟨b, 0, none⟩)], .agg (bA x)] w fun e w' => e = .returned (.agg (bA (zx x p 64))) ∧ Below w.heap.size w w' := by
  have hmf : ∀ (fn : Fn) (first cap : Array Value) (w : World), (Instr.makeFunc fn first cap).run Try.prog w = .ok (.func fn first cap) w := fun _ _ _ _ => rfl
  have hb0 := bthen (below_alloc w (Obj.cells (bA x) 34)) (below_alloc _ (Obj.cells (bA (zeros 64)) 34))
  have x0 := (Blk.new w 34 (bA x)).alloc (Obj.cells (bA (zeros 64)) 34)
  have x1 := Blk.new (w.alloc (Obj.cells (bA x) 34)) 34 (bA (zeros 64))
  rw [show (w.alloc (Obj.cells (bA x) 34)).heap.size = w.heap.size + 1 by simp] at x1
  have HP := Lib.hid (hb.below hb0 hb.lt)
  have HB0 := Lib.hid hb0
  have X0 := Lib.hid x0
  have X1 := Lib.hid x1
  have H1 := Lib.hid hx
  have H2 := Lib.hid hp
  have H3 := Lib.hid hxb
  have H4 := Lib.hid hpb
  have hz64 := zero_secF
  clear hb hx hp hxb hpb hb0 x0 x1
  go_enter_defers Try.func95, Try.ntmps95
  go_upto_region 1 with fail
  clear hz64
  generalize (w.alloc (Obj.cells (bA x) 34)).alloc (Obj.cells (bA (zeros 64)) 34) = w0 at *
  go_wp2_with (first | (refine wpl_load rfl _ rfl (w.heap.size) rfl _ _ _ (X0.out) Try.underlying34 rfl (info_sec H1.out) ?_; go_frame))
  refine (dsp1 H1.out H2.out H3.out H4.out HP.out).mono ?_
  rintro e w1 ⟨rfl, hb⟩
  have HB1 := Lib.hid (bthen HB0.out hb)
  have X2 := Lib.hid (X1.out.below hb X1.out.lt)
  clear hb
  go_wp2_with (first | (refine wpl_store rfl _ _ rfl (w.heap.size + 1) (bA (zx x p 64)) rfl rfl _ _ X2.out (info_sec (zx_length _ _ _)) (by rw [bA_size, bA_size, zeros_length, zx_length]) (bA_one _) ?_; intro w9 hSg hKg; have HSg := Lib.hid hSg; have HKg := Lib.hid hKg; clear hSg hKg; go_frame))
  refine leaves_cons (f := 96) (args := #[.pointer (some ⟨w.heap.size, 0, none⟩), .pointer (some ⟨w.heap.size + 1, 0, none⟩)]) (by simp) (by simp [go_sem]) ?_
  refine (zchF1 _ _ _).mono ?_
  rintro e u' w'' ⟨rfl, rfl, rfl⟩
  exact ⟨.agg (bA (zx x p 64)), results_cell_row Try.results95 _ _ (w.heap.size + 1) 34 _ (0, 0) _ rfl HSg.out Try.underlying34 rfl (info_sec (zx_length _ _ _)), rfl, bkept HB1.out (Nat.le_refl _) HKg.out (fun i hi h => by omega)⟩
def chE7 (z : ZsR) (off : Int) : Int := if holS z off = true then 0 else 31
def chS7 (z : ZsR) (off : Int) (p : List Nat) : ZsR := if holS z off = true then { z with ss := z.ss.set off.toNat (zx (z.ss.getD off.toNat []) p 64) } else z
theorem flat_splice {ss : List (List Nat)} (h : ∀ t ∈ ss, t.length = 64) (i : Nat) (hi : i < ss.length) (x : List Nat) (hx : x.length = 64) : splice (flat ss) (i * 64) (bvals x) = flat (ss.set i x) := by
  have h1 := flatten_set (k := 64) (L := ss.map bvals) (fun r hr => by obtain ⟨t, ht, rfl⟩ := List.mem_map.1 hr; rw [bvals_length]; exact h t ht) i (bvals x) (by rw [bvals_length]; exact hx) (by simpa using hi)
  rw [← List.map_set] at h1
  exact h1.symm
theorem zchF_push {lo A : Nat} {z : ZsR} {w : World} {g i cap : Nat} {w2 : World} {x : List Nat} (hz : ZsAt 114 34 lo w A (.slice (some ⟨g, 0, none⟩) z.ss.length cap) z) (h64 : ∀ t ∈ z.ss, t.length = 64) (hi : i < z.ss.length) (hx : x.length = 64) (hb : Below w.heap.size w w2) :
    ZsTo 114 34 lo w A (.slice (some ⟨g, 0, none⟩) z.ss.length cap) { z with ss := z.ss.set i x } (w2.setCells g (i * 64) (bvals x)) := by
  have h2 := hz.below hb
  have hg : g ≠ A := fun e => own_unlike (g := A) h2.own h2.blk (by decide) (by simp [Value.ownBlock, e])
  have k := kept_setCells (g := g) (bvals x) (i * 64) w2 (Kept.refl _ _)
  have h3 := own_setCells (bvals x) (i * 64) w2 (flat z.ss) h2.own (by rw [bvals_length, hx, flat_length h64]; omega)
  rw [flat_splice h64 i hi x hx] at h3
  refine ⟨.slice (some ⟨g, 0, none⟩) z.ss.length cap, ⟨h2.blk.kept k (fun e => hg e.symm), ?_, hz.le⟩, (Kept.of_below (S := fun _ => False) hb).andThen k (fun _ _ h => h.elim) (fun j _ h => .inr (by rw [h]; rfl)), fun k hk => .inl hk⟩
  show World.ownsRow _ lo 34 64 _ (z.ss.set i x).length _
  rw [List.length_set]
  exact h3
set_option maxRecDepth 100000 in
set_option maxHeartbeats 4000000 in
theorem zchF {lo A : Nat} {v : Value} {z : ZsR} {w : World} {p : List Nat} (off : Int) (b : Nat) (hz : ZsAt 114 34 lo w A v z) (hok : ZsOk z) (hp : p.length = 64) (hpb : ∀ c ∈ p, c < 256) (hb : Blk w b 34 (bA p)) (hbv : v.ownBlock ≠ some b) : Calls Try.prog 93 #[.pointer (some ⟨A, 0, none⟩), .int .i64 off, .func (.func 94) #[] #[.pointer (some ⟨b, 0, none⟩)]] w fun e w' => e = .returned (.int .i64 (chE7 z off)) ∧ ZsTo 114 34 lo w A v (chS7 z off p) w' := by
  cases hh : holS z off with
  | false =>
    have hE : chE7 z off = 31 := by unfold chE7; rw [if_neg (by rw [hh]; decide)]
    have hZ : chS7 z off p = z := by unfold chS7; rw [if_neg (by rw [hh]; decide)]
    rw [hE, hZ]
    have Hh := Lib.hid hh
    have Hz := Lib.hid hz
    clear hz hE hZ hh hok hb hp hpb hbv
    go_enter Try.func93, Try.ntmps93
    go_wp2_with fail
    refine (zholF off Hz.out).mono ?_
    rintro e w' ⟨rfl, rfl⟩
    rw [Hh.out]
    go_wp2_with fail
    go_ret
    exact ⟨rfl, ZsTo.same Hz.out (Below.refl _ _)⟩
  | true =>
    have hE : chE7 z off = 0 := by unfold chE7; rw [if_pos hh]
    have hZ : chS7 z off p = { z with ss := z.ss.set off.toNat (zx (z.ss.getD off.toNat []) p 64) } := by unfold chS7; rw [if_pos hh]
    rw [hE, hZ]
    have Hh := Lib.hid hh
    obtain ⟨o1, o2⟩ : 0 ≤ off ∧ off < (z.ss.length : Int) := by unfold holS at hh; simpa using hh
    obtain ⟨i, rfl⟩ := Int.eq_ofNat_of_zero_le o1
    rw [Int.toNat_natCast]
    have hi : i < z.ss.length := by omega
    obtain ⟨a, cap, rfl, hc1, hc2⟩ := hz.slice
    unfold maxLen at hc2
    obtain ⟨g, rfl, _, hg2⟩ := ownK_form hz.own (by omega)
    have hAg : ¬ A = g := fun e => own_unlike (g := A) hz.own hz.blk (by decide) (by simp [Value.ownBlock, e])
    have hbg : ¬ b = g := fun e => hbv (by simp [Value.ownBlock, e])
    have h64 := hok.w64
    have hr := own_range hz.own rfl h64 i hi
    have hx64 := getD_64 h64 i hi
    have hxm : z.ss.getD i [] ∈ z.ss := by rw [List.getD_eq_getElem?_getD, List.getElem?_eq_getElem hi]; exact List.getElem_mem hi
    have hxb := hok.lt _ hxm
    have Hz := Lib.hid hz
    have Hb := Lib.hid hz.blk
    have HB := Lib.hid hb
    have H64 := Lib.hid h64
    have Hp := Lib.hid hp
    have Hpb := Lib.hid hpb
    generalize z.ss.getD i [] = X at *
    have Hr := Lib.hid hr
    have HX := Lib.hid hx64
    have HXb := Lib.hid hxb
    clear hz hE hZ hh hok hb hr hx64 hxb hxm h64 hp hpb hbv
    go_enter Try.func93, Try.ntmps93
    go_wp2_with fail
    refine (zholF (i : Int) Hz.out).mono ?_
    rintro e w' ⟨rfl, rfl⟩
    rw [Hh.out]
    go_upto_region 3 with fail
    · refine wp_region_held (S := fun w' => Kept (· = g) w w') (by kernel_rfl) ?_
      change wpAnyH _ _ _ _ _ _ _ _ (World.drew _)
      have hS : Kept (· = g) w w.drew := (Kept.refl _ w).drew
      refine takeH hS (i := 0) (d := 11) (v := .pointer (some ⟨A, 0, none⟩)) rfl rfl (by kernel_rfl) (by kernel_rfl) (by kernel_rfl) (fun _ _ _ h => h) (Or.inl ⟨by kernel_rfl, fun w' hw' => by kernel_rfl⟩) ?_
      refine takeH hS (i := 1) (d := 12) (v := .pointer (some ⟨A, 0, none⟩)) rfl rfl (by kernel_rfl) (by kernel_rfl) (by kernel_rfl) (fun _ _ _ h => h) (Or.inl ⟨by kernel_rfl, fun w' hw' => by kernel_rfl⟩) ?_
      refine takeH hS (i := 2) (d := 13) (v := .pointer (some ⟨A, 1, none⟩)) rfl rfl (by kernel_rfl) (by kernel_rfl) (by kernel_rfl) (fun _ _ _ h => h) (Or.inl ⟨by kernel_rfl, fun w' hw' => by kernel_rfl⟩) ?_
      refine takeH hS (i := 3) (d := 14) (v := .slice (some ⟨g, 0, none⟩) z.ss.length cap) rfl rfl (by kernel_rfl) (by kernel_rfl) (by kernel_rfl) (fun _ _ _ h => h) (Or.inl ⟨by kernel_rfl, fun w' hw' => by exact exec_cellv _ rfl ⟨A, 1, none⟩ rfl (.slice (some ⟨g, 0, none⟩) z.ss.length cap) Try.underlying48 rfl (((Hb.out.kept hw' hAg).cell 1).trans rfl)⟩) ?_
      try go_frame
      refine takeH hS (i := 4) (d := 15) (v := .int .i64 (i : Nat)) rfl rfl (by kernel_rfl) (by kernel_rfl) (by kernel_rfl) (fun _ _ _ h => h) (Or.inl ⟨by kernel_rfl, fun w' hw' => by kernel_rfl⟩) ?_
      refine takeH hS (i := 5) (d := 16) (v := .func (.func 94) #[] #[.pointer (some ⟨b, 0, none⟩)]) rfl rfl (by kernel_rfl) (by kernel_rfl) (by kernel_rfl) (fun _ _ _ h => h) (Or.inl ⟨by kernel_rfl, fun w' hw' => by kernel_rfl⟩) ?_
      refine takeH hS (i := 6) (d := 17) (v := .pointer (some ⟨A, 0, none⟩)) rfl rfl (by kernel_rfl) (by kernel_rfl) (by kernel_rfl) (fun _ _ _ h => h) (Or.inl ⟨by kernel_rfl, fun w' hw' => by kernel_rfl⟩) ?_
      refine takeH hS (i := 7) (d := 18) (v := .pointer (some ⟨A, 0, none⟩)) rfl rfl (by kernel_rfl) (by kernel_rfl) (by kernel_rfl) (fun _ _ _ h => h) (Or.inl ⟨by kernel_rfl, fun w' hw' => by kernel_rfl⟩) ?_
      refine takeH hS (i := 8) (d := 19) (v := .pointer (some ⟨A, 1, none⟩)) rfl rfl (by kernel_rfl) (by kernel_rfl) (by kernel_rfl) (fun _ _ _ h => h) (Or.inl ⟨by kernel_rfl, fun w' hw' => by kernel_rfl⟩) ?_
      try go_frame
      refine takeH hS (i := 9) (d := 20) (v := .slice (some ⟨g, 0, none⟩) z.ss.length cap) rfl rfl (by kernel_rfl) (by kernel_rfl) (by kernel_rfl) (fun _ _ _ h => h) (Or.inl ⟨by kernel_rfl, fun w' hw' => by exact exec_cellv _ rfl ⟨A, 1, none⟩ rfl (.slice (some ⟨g, 0, none⟩) z.ss.length cap) Try.underlying48 rfl (((Hb.out.kept hw' hAg).cell 1).trans rfl)⟩) ?_
      refine takeH hS (i := 10) (d := 21) (v := .int .i64 (i : Nat)) rfl rfl (by kernel_rfl) (by kernel_rfl) (by kernel_rfl) (fun _ _ _ h => h) (Or.inl ⟨by kernel_rfl, fun w' hw' => by kernel_rfl⟩) ?_
      refine takeH hS (i := 11) (d := 22) (v := .pointer (some ⟨g, i * 64, none⟩)) rfl rfl (by kernel_rfl) (by kernel_rfl) (by kernel_rfl) (fun _ _ _ h => h) (Or.inl ⟨by kernel_rfl, fun w' hw' => by exact exec_indexS elF _ _ rfl g z.ss.length cap i rfl rfl hi⟩) ?_
      try go_frame
      refine nextH (i := 12) rfl (by kernel_rfl) (by kernel_rfl) (fun K' hK => ?_)
      refine wp_load_mid 34 _ rfl g (i * 64) rfl (bvals X) _ (show World.rangeAt w.drew g (i * 64) (bvals X) from Hr.out) Try.underlying34 rfl (by rw [bvals_length]; exact (info_sec HX.out).trans (by rw [bA_size])) ?_
      refine hK.out _ _ ⟨hS, ?_⟩
      clear hK K'
      try go_frame
      refine nextH (i := 13) rfl (by kernel_rfl) (by kernel_rfl) (fun K' hK => ?_)
      go_wp2_with fail
      refine (dtold (x := X) (p := p) (b := b) HX.out Hp.out HXb.out Hpb.out (show Blk w.drew b 34 (bA p) from HB.out)).mono ?_
      rintro en w2 ⟨rfl, hb⟩
      have hb2 : Below w.heap.size w w2 := (Below.refl _ w).drew.trans hb
      have hS2 : Kept (· = g) w w2 := Kept.of_below hb2
      refine hK.out _ _ ⟨hS2, ?_⟩
      clear hK K' hS hb
      have HT : Hid (ZsTo 114 34 lo w A (.slice (some ⟨g, 0, none⟩) z.ss.length cap) { z with ss := z.ss.set i (zx X p 64) } (w2.setCells g (i * 64) (bA (zx X p 64)).toList)) := Lib.hid (zchF_push (i := i) (x := zx X p 64) Hz.out H64.out hi (zx_length _ _ _) hb2)
      have Hth := Lib.hid (own_there (Hz.out.below hb2).own (i * 64) 64 (by omega))
      have HS3 : Hid (Kept (· = g) w (w2.setCells g (i * 64) (bA (zx X p 64)).toList)) := Lib.hid (kept_setCells (g := g) (w0 := w) (bvals (zx X p 64)) (i * 64) w2 hS2)
      refine takeH hS2 (i := 14) (d := 25) (v := .pointer (some ⟨g, i * 64, none⟩)) rfl rfl (by kernel_rfl) (by kernel_rfl) (by kernel_rfl) (fun _ _ _ h => h) (Or.inl ⟨by kernel_rfl, fun w' hw' => by exact exec_indexS elF _ _ rfl g z.ss.length cap i rfl rfl hi⟩) ?_
      try go_frame
      refine nextH (i := 15) rfl (by kernel_rfl) (by kernel_rfl) (fun K' hK => ?_)
      refine wp_store_mid 34 _ _ rfl g (i * 64) (bA (zx X p 64)) rfl rfl (by rw [bA_size, zx_length]; exact Hth.out) (info_sec (zx_length _ _ _)) (bA_one _) ?_
      generalize w2.setCells g (i * 64) (bA (zx X p 64)).toList = w3 at *
      refine hK.out _ _ ⟨HS3.out, ?_⟩
      clear hK K' hb2 hS2
      try go_frame
      refine wpAnyH_done (by kernel_rfl) ?_ _
      go_wp2_with fail
      go_ret
      exact ⟨rfl, HT.out⟩
theorem chS7_size (z : ZsR) (off : Int) (p : List Nat) : (chS7 z off p).size = z.size := by unfold chS7; split <;> rfl
theorem chS7_ok {z : ZsR} (hok : ZsOk z) (off : Int) {p : List Nat} (hpb : ∀ c ∈ p, c < 256) : ZsOk (chS7 z off p) := by
  unfold chS7
  by_cases e : holS z off = true
  · rw [if_pos e]
    obtain ⟨o1, o2⟩ : 0 ≤ off ∧ off < (z.ss.length : Int) := by unfold holS at e; simpa using e
    have hi : off.toNat < z.ss.length := by omega
    have hm : z.ss.getD off.toNat [] ∈ z.ss := by rw [List.getD_eq_getElem?_getD, List.getElem?_eq_getElem hi]; exact List.getElem_mem hi
    refine ⟨hok.size, by show ((z.ss.set _ _).length : Int) ≤ _; rw [List.length_set]; exact hok.len, by show _ ∧ _ ≤ ((z.ss.set _ _).length : Int); rw [List.length_set]; exact hok.safe, hok.failed, flat_set_length hok.w64 _ _ (zx_length _ _ _), fun t ht => ?_⟩
    rcases List.mem_or_eq_of_mem_set ht with h | rfl
    · exact hok.lt t h
    · exact fun c hc => zx_lt (hok.lt _ hm) hpb 64 c hc
  · rw [if_neg e]; exact hok
set_option maxRecDepth 100000 in
set_option maxHeartbeats 2000000 in
theorem dsp_no {lo D : Nat} {w : World} {vz : Value} {d : DvR} {l : List ZcR} (z off : Int) (p : List Nat) (h : DvAt lo w D vz d l) (hh : dhB l.length z = false) : Calls Try.prog 91 #[.pointer (some ⟨D, 0, none⟩), .int .i64 z, .int .i64 off, .agg (bA p)] w fun e w' => e = .returned (.int .i64 13) ∧ Below w.heap.size w w' := by
  have Hb0 := Lib.hid (below_alloc w (Obj.cells (bA p) 34))
  have H := Lib.hid (h.below Hb0.out)
  have Hh := Lib.hid hh
  clear h hh
  go_enter Try.func91, Try.ntmps91
  go_upto_region 1 with fail
  generalize w.alloc (Obj.cells (bA p) 34) = w0 at *
  go_wp2_with fail
  refine (dhol z H.out).mono ?_
  rintro e w1 ⟨rfl, rfl⟩
  rw [Hh.out]
  go_wp2_with fail
  go_ret
  exact ⟨rfl, Hb0.out⟩
set_option maxRecDepth 100000 in
set_option maxHeartbeats 4000000 in
theorem dsp_ok {lo D : Nat} {w : World} {vz : Value} {d : DvR} {l : List ZcR} {k : Nat} {c : ZcR} {p : List Nat} (off : Int) (h : DvAt lo w D vz d l) (hc : l[k]? = some c) (hp : p.length = 64) (hpb : ∀ b ∈ p, b < 256) : Calls Try.prog 91 #[.pointer (some ⟨D, 0, none⟩), .int .i64 (k : Nat), .int .i64 off, .agg (bA p)] w fun e w' => e = .returned (.int .i64 (chE7 c.z off)) ∧ DvTo lo w D vz l d ((l.map ZcR.z).set k (chS7 c.z off p)) w' := by
  have hmf : ∀ (fn : Fn) (first cap : Array Value) (w : World), (Instr.makeFunc fn first cap).run Try.prog w = .ok (.func fn first cap) w := fun _ _ _ _ => rfl
  have hk : k < l.length := (List.getElem?_eq_some_iff.1 hc).1
  have hh : dhB l.length (k : Int) = true := by unfold dhB; simp; omega
  have Hb0 := Lib.hid (below_alloc w (Obj.cells (bA p) 34))
  have HX := Lib.hid (Blk.new w 34 (bA p))
  have hA := h.below Hb0.out
  obtain ⟨g, cap, rfl, q1, q2, hg⟩ := hA.ptr hc
  unfold maxLen at q2
  have c0 : (w.alloc (Obj.cells (bA p) 34)).cell? ⟨D, 0, none⟩ = some (.slice (some ⟨g, 0, none⟩) l.length cap) := (hA.blk.cell 0).trans rfl
  have Hnv : Hid (c.v.ownBlock ≠ some w.heap.size) := Lib.hid (fun e => Nat.lt_irrefl _ ((h.each k c hc).lt (.inr e)))
  have H := Lib.hid hA
  have Hh := Lib.hid hh
  have Hc := Lib.hid hc
  have Hp := Lib.hid hp
  have Hpb := Lib.hid hpb
  clear h hh hc hA hp hpb
  go_enter Try.func91, Try.ntmps91
  go_upto_region 1 with fail
  generalize w.alloc (Obj.cells (bA p) 34) = w0 at *
  go_wp2_with fail
  refine (dhol (k : Int) H.out).mono ?_
  rintro e w1 ⟨rfl, rfl⟩
  rw [Hh.out]
  go_wp2_with fail
  refine (zchF off w.heap.size (H.out.each k c Hc.out) (H.out.ok k c Hc.out) Hp.out Hpb.out HX.out Hnv.out).mono ?_
  rintro e w1 ⟨rfl, hT⟩
  have HT := Lib.hid (DvTo.after Hb0.out (H.out.zone Hc.out hT (chS7_ok (H.out.ok k c Hc.out) off Hpb.out) ((chS7_size _ _ _).trans (H.out.size k c Hc.out))))
  clear hT hg
  go_wp2_with fail
  go_ret
  exact ⟨rfl, HT.out⟩
end Go.Proofs.Ytajkajgnjcnolaa

