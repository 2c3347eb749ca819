/-
  The walk of GeomZones.
-/
import Derived.Test.YtkjjhcpfblhijaaGeomH
import Derived.Test.YtkjjhcpfblhijaaGeomE
namespace Go.Proofs.Ytkjjhcpfblhijaa
open Go.RowKit Go.Shelf
attribute [local go_sem] Oper.semAt_some
set_option linter.unusedVariables false
set_option linter.unnecessarySimpa false
set_option linter.unusedSimpArgs false

/-- What lies in memory while the law goes on: the geometry, stop, the result, how many zones have come. -/
structure ZI (g : GeR) (stop : Int) (w : World) (nb : Nat) (n : Int) (W : World) : Prop where
  G : Blk W w.heap.size 23 (geA g)
  S : Blk W (w.heap.size + 1) 3 #[.int .i64 stop]
  T : Blk W (w.heap.size + 2) 4 #[.bool false]
  N : Blk W nb 3 #[.int .i64 n]
  B : Below w.heap.size w W
  le : w.heap.size + 3 ≤ nb

theorem ZI.below {g : GeR} {stop n : Int} {w W W' : World} {nb : Nat} (h : ZI g stop w nb n W) (hb : Below W.heap.size W W') : ZI g stop w nb n W' :=
  ⟨h.G.below hb h.G.lt, h.S.below hb h.S.lt, h.T.below hb h.T.lt, h.N.below hb h.N.lt, bthen' h.B hb, h.le⟩
theorem ZI.own {g : GeR} {stop : Int} {w : World} {nb B : Nat} (f : List Int → Int) (hB : w.heap.size ≤ B) : OwnFrom B (fun pre W => ZI g stop w nb (f pre) W) := fun s X Y row h hg hr =>
  ⟨Own.from (blk_own (β := List Int) _ _ (fun _ => geA g)) B s X Y row h.G hg hr, Own.from (blk_own (β := List Int) _ _ (fun _ => _)) B s X Y row h.S hg hr, Own.from (blk_own (β := List Int) _ _ (fun _ => _)) B s X Y row h.T hg hr, Own.from (blk_own (β := List Int) _ _ (fun pre => #[.int .i64 (f pre)])) B s X Y row h.N hg hr,
    ownFrom_below (β := List Int) (Nat.le_refl _) hB s X Y row h.B hg hr, h.le⟩
theorem ZI.set {g : GeR} {stop n : Int} {w W : World} {nb : Nat} (h : ZI g stop w nb n W) (m : Int) : ZI g stop w nb m (W.setCell ⟨nb, 0, none⟩ (.int .i64 m)) :=
  have hl := h.le
  ⟨h.G.far (by simp; omega) _, h.S.far (by simp; omega) _, h.T.far (by simp; omega) _, blk_set1 h.N _, h.B.setCell (p := ⟨nb, 0, none⟩) (by simp; omega) _, h.le⟩
/-- A store elsewhere. -/
theorem ZI.far {g : GeR} {stop n : Int} {w W : World} {nb b : Nat} (h : ZI g stop w nb n W) (u : Value) (h1 : nb ≠ b) (h2 : w.heap.size + 3 ≤ b) : ZI g stop w nb n (W.setCell ⟨b, 0, none⟩ u) :=
  ⟨h.G.far (by simp; omega) _, h.S.far (by simp; omega) _, h.T.far (by simp; omega) _, h.N.far (by simpa using h1) _, h.B.setCell (p := ⟨b, 0, none⟩) (by simp; omega) _, h.le⟩

theorem zi_next {g : GeR} {stop n m : Int} {w W W' : World} {nb : Nat} (h : ZI g stop w nb n W) (hb : Below W.drew.heap.size W.drew W') (hm : m = n + 1) : ZI g stop w nb m (W'.setCell ⟨nb, 0, none⟩ (.int .i64 (n + 1))) := by
  subst hm
  exact (h.below ((Below.refl _ W).drew.trans hb)).set (n + 1)

theorem results_cell1 {P : Program} {fn : Func} {p : Tmp} {ty : TypeId} (h : fn.results = #[.cell p ty]) (tmps : Array Value) (w : World) (a : Addr) (v : Value) (hp : tmps.getD p undef = .pointer (some a)) (ha : (isAgg ty).run P w = .ok false w) (hc : w.cell? a = some v) :
    (results fn tmps).run P w = .ok v w := by
  have hp' : tmps[p]?.getD undef = .pointer (some a) := by simpa using hp
  simp [results, h, hp', asAddr, loadVar, ha, hc]
theorem agg_bool (w : World) : (isAgg 4).run Try.prog w = .ok false w := by simp [isAgg, run_underlying Try.underlying4]

theorem upz_get {b x : Int} {n : Nat} {pre : List Int} (h : pre ++ [x] <+: upz b n) : x = b + (pre.length : Int) := by
  obtain ⟨t, ht⟩ := h
  have h1 : (upz b n)[pre.length]? = some x := by rw [← ht]; simp
  unfold upz at h1
  rw [List.getElem?_map] at h1
  cases hr : (List.range n)[pre.length]? with
  | none => rw [hr] at h1; cases h1
  | some i =>
    rw [hr] at h1
    obtain ⟨hi, he⟩ := List.getElem?_eq_some_iff.1 hr
    simp at he h1
    omega
theorem zo_in {g : GeR} {k : Int} (h0 : 0 ≤ k) (h1 : k < g.d) : zoI g k = upz (k * g.z) g.z.toNat := by unfold zoI; rw [if_pos ⟨h0, by omega⟩]
theorem zo_out {g : GeR} {k : Int} (h : k < 0 ∨ g.d ≤ k) : zoI g k = [] := by unfold zoI; rw [if_neg (by omega)]
theorem dom_at {g : GeR} {k i : Int} (hz : 1 ≤ g.z) (h0 : 0 ≤ k) (h1 : k < g.d) (h2 : 0 ≤ i) (h3 : i < g.z) : domI g (k * g.z + i) = k := by
  have e : (k * g.z + i) / g.z = k := by
    rw [Int.add_comm, Int.add_mul_ediv_right _ _ (by omega), Int.ediv_eq_zero_of_lt h2 h3, Int.zero_add]
  have hm : 0 ≤ k * g.z := Int.mul_nonneg h0 (by omega)
  unfold domI
  rw [e, if_pos ⟨by omega, h1⟩]

set_option maxRecDepth 100000 in
set_option maxHeartbeats 2000000 in
theorem walkZones_n (g : GeR) (x f stop : Int) (w : World) (hx : x ≤ 9223372036854775807) (hr : gB g = false) :
    Calls Try.prog 4 #[.agg (geA g), .int .i64 x, .int .i64 f, .int .i64 stop] w fun e w' => e = .returned (.bool true) ∧ Below w.heap.size w w' := by
  have Hr := Lib.hid hr
  have Hh := Lib.hid (show holB g x f = false by unfold holB; rw [hr]; rfl)
  have hG := ((Blk.new w 23 (geA g)).alloc (Obj.cells #[.int .i64 stop] 3)).alloc (Obj.cells #[.bool false] 4)
  have hT := Blk.new ((w.alloc (Obj.cells (geA g) 23)).alloc (Obj.cells #[.int .i64 stop] 3)) 4 #[.bool false]
  rw [show ((w.alloc (Obj.cells (geA g) 23)).alloc (Obj.cells #[.int .i64 stop] 3)).heap.size = w.heap.size + 2 by simp] at hT
  have hB := bthen' (bthen' (below_alloc w (Obj.cells (geA g) 23)) (below_alloc _ (Obj.cells #[.int .i64 stop] 3))) (below_alloc _ (Obj.cells #[.bool false] 4))
  have HG := Lib.hid hG
  have HT := Lib.hid hT
  have HB := Lib.hid hB
  clear hr hG hT hB
  refine calls_marks Try.func4 rfl ?_
  simp only [Try.ntmps4, List.size_toArray, List.length_cons, List.length_nil, Nat.reduceAdd, Nat.reduceSub, Array.replicate_succ, Array.replicate_zero, List.push_toArray, List.append_toArray, List.nil_append, List.cons_append]
  go_upto_region 1 with fail
  generalize ((w.alloc (Obj.cells (geA g) 23)).alloc (Obj.cells #[.int .i64 stop] 3)).alloc (Obj.cells #[.bool false] 4) = w0 at *
  go_wp2_with fail
  refine (anchor5_any _).mono ?_
  rintro e w1 ⟨rfl, hb⟩
  have HG1 := Lib.hid (HG.out.below hb HG.out.lt)
  have HT1 := Lib.hid (HT.out.below hb HT.out.lt)
  have HB1 := Lib.hid (bthen' HB.out hb)
  clear HG HT HB hb
  go_wp2_with (first | (refine wpl_load_g (by rfl) _ rfl (w.heap.size) rfl _ _ _ HG1.out Try.underlying23 rfl (info_geA g) ?_; go_frame))
  refine (rright_any g _).mono ?_
  rintro e w2 ⟨rfl, hb⟩
  rw [Hr.out]
  have HG2 := Lib.hid (HG1.out.below hb HG1.out.lt)
  have HT2 := Lib.hid (HT1.out.below hb HT1.out.lt)
  have HB2 := Lib.hid (bthen' HB1.out hb)
  clear HG1 HT1 HB1 hb
  go_wp2_with (first | (refine wpl_load_g (by rfl) _ rfl (w.heap.size) rfl _ _ _ HG2.out Try.underlying23 rfl (info_geA g) ?_; go_frame))
  refine (holds_any g x f _ hx).mono ?_
  rintro e w3 ⟨rfl, hb⟩
  rw [Hh.out]
  have hT3 := HT2.out.below hb HT2.out.lt
  have HB3 := Lib.hid (bthen' HB2.out hb)
  have c8 := blk_one hT3
  have f8 := hT3.frozen 0
  have HT3 := Lib.hid hT3
  clear HG2 HT2 HB2 hb hT3
  go_wp2_with fail
  refine leave_marks (Marks.nil w.heap.size _) (fun w' hw' => ⟨_, results_cell1 Try.results4 _ _ ⟨w.heap.size + 2, 0, none⟩ (.bool true) rfl (agg_bool _) (blk_one (hw'.same _ _ _ (blk_set1 HT3.out (.bool true)))), rfl, (HB3.out.setCell (p := ⟨w.heap.size + 2, 0, none⟩) (by simp) _).trans hw'.bel⟩)

set_option maxRecDepth 100000 in
set_option maxHeartbeats 4000000 in
theorem walkZones_t (g : GeR) (x f stop : Int) (w : World) (hx : x ≤ 9223372036854775807) (hr : gB g = true) :
    Calls Try.prog 4 #[.agg (geA g), .int .i64 x, .int .i64 f, .int .i64 stop] w fun e w' => e = .returned (.bool true) ∧ Below w.heap.size w w' := by
  have Hr := Lib.hid hr
  have H := Lib.hid (gB_lim hr)
  have HG0 := Lib.hid (((Blk.new w 23 (geA g)).alloc (Obj.cells #[.int .i64 stop] 3)).alloc (Obj.cells #[.bool false] 4))
  have hS := (Blk.new (w.alloc (Obj.cells (geA g) 23)) 3 #[.int .i64 stop]).alloc (Obj.cells #[.bool false] 4)
  rw [show (w.alloc (Obj.cells (geA g) 23)).heap.size = w.heap.size + 1 by simp] at hS
  have HS0 := Lib.hid hS
  have hT := Blk.new ((w.alloc (Obj.cells (geA g) 23)).alloc (Obj.cells #[.int .i64 stop] 3)) 4 #[.bool false]
  rw [show ((w.alloc (Obj.cells (geA g) 23)).alloc (Obj.cells #[.int .i64 stop] 3)).heap.size = w.heap.size + 2 by simp] at hT
  have HT0 := Lib.hid hT
  have HB0 := Lib.hid (bthen' (bthen' (below_alloc w (Obj.cells (geA g) 23)) (below_alloc _ (Obj.cells #[.int .i64 stop] 3))) (below_alloc _ (Obj.cells #[.bool false] 4)))
  clear hr hS hT
  refine calls_marks Try.func4 rfl ?_
  simp only [Try.ntmps4, List.size_toArray, List.length_cons, List.length_nil, Nat.reduceAdd, Nat.reduceSub, Array.replicate_succ, Array.replicate_zero, List.push_toArray, List.append_toArray, List.nil_append, List.cons_append]
  go_upto_region 1 with fail
  generalize ((w.alloc (Obj.cells (geA g) 23)).alloc (Obj.cells #[.int .i64 stop] 3)).alloc (Obj.cells #[.bool false] 4) = w0 at *
  go_upto_region 3 with fail
  refine (anchor5_any _).mono ?_
  rintro e w1 ⟨rfl, hb⟩
  have HG1 := Lib.hid (HG0.out.below hb HG0.out.lt)
  have HS1 := Lib.hid (HS0.out.below hb HS0.out.lt)
  have HT1 := Lib.hid (HT0.out.below hb HT0.out.lt)
  have HB1 := Lib.hid (bthen' HB0.out hb)
  clear hb HB0 HG0 HS0 HT0
  go_upto_region 3 with fail
  go_upto_region 5 with (refine wpl_load_g (by rfl) _ rfl (w.heap.size) rfl _ _ _ HG1.out Try.underlying23 rfl (info_geA g) ?_; go_frame)
  refine (rright_any g _).mono ?_
  rintro e w2 ⟨rfl, hb⟩
  rw [Hr.out]
  have HG2 := Lib.hid (HG1.out.below hb HG1.out.lt)
  have HS2 := Lib.hid (HS1.out.below hb HS1.out.lt)
  have HT2 := Lib.hid (HT1.out.below hb HT1.out.lt)
  have HB2 := Lib.hid (bthen' HB1.out hb)
  clear hb HB1 HG1 HS1 HT1
  go_upto_region 6 with fail
  have HZ : Hid (ZI g stop w w2.heap.size 0 (w2.alloc (Obj.cells #[.int .i64 0] 3))) := Lib.hid ⟨HG2.out.alloc _, HS2.out.alloc _, HT2.out.alloc _, Blk.new _ _ _, bthen' HB2.out (below_alloc _ _), HT2.out.lt⟩
  clear HG2 HS2 HT2 HB2
  generalize w2.alloc (Obj.cells #[.int .i64 0] 3) = w3 at *
  generalize w2.heap.size = nb at *
  have c0 := (HZ.out.G.cell 0).trans (geA_at0 g)
  go_wp2_with fail
  clear c0
  obtain ⟨x0, x1⟩ := H.out.d
  obtain ⟨x2, x3⟩ := H.out.z
  refine wp_loop (fun a V => ∃ (k : Nat) (ds : List Deferred) (u10 u11 u27 u28 u29 u30 u31 u32 u33 u34 u35 u36 u37 u38 u39 u40 u41 u42 u43 u44 u45 : Value), a = { tmps := #[.agg (geA g), .int .i64 x, .int .i64 f, .int .i64 stop, .pointer (some ⟨w.heap.size, 0, none⟩), undef, undef, .pointer (some ⟨w.heap.size + 1, 0, none⟩), .pointer (some ⟨w.heap.size + 2, 0, none⟩), .pointer (some ⟨nb, 0, none⟩), u10, u11, undef, undef, .bool true, .bool false, .agg (geA g), .bool true, .bool false, undef, undef, undef, undef, undef, .pointer (some ⟨w.heap.size, 0, none⟩), .int .i64 g.d, .int .i64 (k : Nat), u27, u28, u29, u30, u31, u32, u33, u34, u35, u36, u37, u38, u39, u40, u41, u42, u43, u44, u45, undef, undef, undef, undef, undef, undef, undef, undef, undef, undef, undef, undef, undef, undef, undef, undef, undef, undef, undef, undef, undef, undef, undef, undef, undef, undef, undef, undef, undef, undef, undef, undef, undef, undef, undef, undef, undef, undef, undef, undef, undef, undef, undef, undef, undef, undef, undef, undef, undef, undef, undef, undef, undef, undef, undef, undef, undef, undef, undef, undef, undef, undef, undef, undef, undef, undef, undef, undef, undef], defers := ds } ∧ (k : Int) ≤ g.d ∧ ZI g stop w nb ((k : Int) * g.z) V ∧ Marks w.heap.size ds V) (fun a _ => (g.d - intOf (a.tmps.getD 26 undef)).toNat) ?start ?round
  case start =>
    exact ⟨0, [], _, _, _, _, _, _, _, _, _, _, _, _, _, _, _, _, _, _, _, _, _, rfl, by omega, by simpa using HZ.out, Marks.nil _ _⟩
  case round =>
    rintro a V ⟨k, ds, u10, u11, u27, u28, u29, u30, u31, u32, u33, u34, u35, u36, u37, u38, u39, u40, u41, u42, u43, u44, u45, rfl, hk, hZ, hM⟩
    have HZk := Lib.hid hZ
    have HMk := Lib.hid hM
    clear hZ hM HZ
    by_cases hlt : (k : Int) < g.d
    · have hk0 : (0 : Int) ≤ k := by omega
      go_upto_region 9 with fail
      have HZ1 := Lib.hid (HZk.out.below (below_alloc V (Obj.cells #[.int .i64 (k : Nat)] 3)))
      have HD1 := Lib.hid (Blk.new V 3 #[.int .i64 (k : Nat)])
      have HM1 := Lib.hid (HMk.out.mono (KeepsOthers.alloc V (Obj.cells #[.int .i64 (k : Nat)] 3)))
      have hdb : w.heap.size + 3 ≤ V.heap.size := Nat.le_trans HZk.out.le (Nat.le_of_lt HZk.out.N.lt)
      have hne : nb ≠ V.heap.size := Nat.ne_of_lt HZk.out.N.lt
      clear HZk HMk
      generalize V.alloc (Obj.cells #[.int .i64 (k : Nat)] 3) = V1 at *
      generalize V.heap.size = db at *
      have cd := blk_one HD1.out
      have HG1 := Lib.hid HZ1.out.G
      go_wp2_with (first | (refine wpl_load_g (by rfl) _ rfl (w.heap.size) rfl _ _ _ HG1.out Try.underlying23 rfl (info_geA g) ?_; go_frame))
      clear cd HG1
      refine (in_any g k _).mono ?_
      rintro e V2 ⟨rfl, rfl⟩
      have hG2 := (Blk.new V1 23 (geA g)).alloc (Obj.cells #[.int .i64 ((k : Nat))] 3)
      have hD2 := Blk.new (V1.alloc (Obj.cells (geA g) 23)) 3 #[.int .i64 ((k : Nat))]
      rw [show (V1.alloc (Obj.cells (geA g) 23)).heap.size = V1.heap.size + 1 by simp] at hD2
      have hb2 := bthen' (below_alloc V1 (Obj.cells (geA g) 23)) (below_alloc _ (Obj.cells #[.int .i64 ((k : Nat))] 3))
      have hZ2 := HZ1.out.below hb2
      have hK2 := HD1.out.below hb2 HD1.out.lt
      have hM2 := HM1.out.mono (keepsOthers_below hb2)
      go_wp2_with fail
      generalize (V1.alloc (Obj.cells (geA g) 23)).alloc (Obj.cells #[.int .i64 (k : Nat)] 3) = V2 at *
      clear HZ1 HD1 HM1 hb2
      have hzo := zo_in (g := g) hk0 hlt
      have hlen : (zoI g k).length = g.z.toNat := by rw [hzo, upz_length]
      refine wp_range (zs := zoI g k) (w0 := V2) rfl (enters_of Try.func26 (by kernel_rfl) rfl) (in_gives _ _ g k 7 (by decide) H.out V2 (blk_one hD2) hG2 hD2.lt) (Below.refl _ _) rfl
        (fun pre W => ZI g stop w nb ((k : Int) * g.z + (pre.length : Int)) W ∧ (Blk W db 3 #[.int .i64 (k : Nat)] ∧ (Marks w.heap.size ds W ∧ V2.heap.size ≤ W.heap.size))) (fun c pre _ => c = .ret ∧ ¬ pre <+: zoI g k)
        (OwnFrom.and (ZI.own (fun pre => (k : Int) * g.z + (pre.length : Int)) hZ2.B.size) (OwnFrom.and (Own.from (blk_own _ _ (fun _ => _)) _) (ownFrom_marks hM2 (Nat.le_refl _)))) (fun c => ownFrom_pure' (fun pre => c = .ret ∧ ¬ pre <+: zoI g k)) ⟨by simpa using hZ2, hK2, hM2, Nat.le_refl _⟩ ?a1 ?assign ?body ?done ?stop
      case assign =>
        intro l y W K hK
        gi_wp2
        exact hK
      case stop =>
        rintro D c pre W hD hp ⟨rfl, hn⟩ _
        exact absurd hp hn
      case body =>
        rintro l pre y W ⟨hZ, hK, hM, hW⟩ hpl
        have cN := blk_one hZ.N
        have fN := hZ.N.frozen 0
        have cD := blk_one hK
        have hmix : Try.prog.follows .mixedOrders = true := by kernel_rfl
        by_cases hy : y = (k : Int) * g.z + (pre.length : Int)
        · subst hy
          rw [hlen] at hpl
          have HDm := Lib.hid (dom_at (g := g) (i := (pre.length : Int)) x2 hk0 hlt (by omega) (by omega))
          have hb1 := mul_bd (x := (k : Int)) (y := g.z) (a := 0) (b := 7) (c := 1) (d := 64) ⟨hk0, by omega⟩ ⟨x2, x3⟩ (by omega) (by omega)
          obtain ⟨b1, b2⟩ := hb1
          have hlx : (pre.length : Int) < 64 := by omega
          have c0 := (hZ.G.cell 0).trans (geA_at0 g)
          have c1 := (hZ.G.cell 1).trans (geA_at1 g)
          have c2 := (hZ.G.cell 2).trans (geA_at2 g)
          have c3 := (hZ.G.cell 3).trans (geA_at3 g)
          have c4 := (hZ.G.cell 4).trans (geA_at4 g)
          have c5 := (hZ.G.cell 5).trans (geA_at5 g)
          have HZ0 := Lib.hid hZ
          have HK0 := Lib.hid hK
          have HM0 := Lib.hid hM
          have hkd : db < W.heap.size := hK.lt
          have hnn : nb < W.heap.size := hZ.N.lt
          clear hZ hK hM hZ2 hK2 hM2 hG2 hD2
          gi_wp2
          gi_region_with_o (first | (refine ⟨trivial, ?_⟩; gi_at_call 20; refine (CallsIn.inRound l (callsIn_wide.2 (domain_any g _ _ H.out (by omega)))).mono ?_; rintro e W9 ⟨rfl, hb⟩; rw [HDm.out]; have cD9 : W9.cell? ⟨db, 0, none⟩ = some (.int .i64 (k : Nat)) := (hb.cell (p := ⟨db, 0, none⟩) hkd).trans cD; have cN9 : W9.cell? ⟨nb, 0, none⟩ = some (.int .i64 ((k : Int) * g.z + (pre.length : Int))) := (hb.cell (p := ⟨nb, 0, none⟩) hnn).trans cN; have fN9 : W9.frozen? ⟨nb, 0, none⟩ = false := (hb.frozen (p := ⟨nb, 0, none⟩) hnn).trans fN; have HB9 := Lib.hid hb; clear hb))
          all_goals gi_wp2
          all_goals
            have hko := ((KeepsOthers.drew W).trans (keepsOthers_below HB9.out)).trans (KeepsOthers.setCell W9 ⟨nb, 0, none⟩ (.int .i64 ((k : Int) * g.z + (pre.length : Int) + 1)))
            exact ⟨hko, trivial, zi_next HZ0.out HB9.out (by simp; omega), (HK0.out.below ((Below.refl _ W).drew.trans HB9.out) hkd).far (by simpa using hne.symm) _, HM0.out.mono hko, Nat.le_trans hW hko.size⟩
        · have e1 : (y != (k : Int) * g.z + (pre.length : Int)) = true := by simpa using hy
          have cT := blk_one hZ.T
          have fT := hZ.T.frozen 0
          have hzp : ∀ hp : pre ++ [y] <+: zoI g k, False := fun hp => hy (by rw [hzo] at hp; exact upz_get hp)
          have HNp := Lib.hid hzp
          clear hZ hK hM hW hZ2 hK2 hM2 hG2 hD2 hy hzp hpl
          gi_wp2
          gi_region_with_o (refine ⟨trivial, ?_⟩)
          all_goals gi_wp2
          all_goals exact ⟨(KeepsOthers.drew W).trans (KeepsOthers.setCell _ _ _), rfl, HNp.out⟩
      case done =>
        rintro D W hD ⟨hZ, hK, hM, hW⟩ hd
        have HMn := Lib.hid (Marks.cons hM2 hZ2.B.size hD hd hM)
        have HZn := Lib.hid hZ
        clear hZ hK hM hW hd hZ2 hK2 hM2 hG2 hD2
        go_wp2_with fail
        refine ⟨⟨k + 1, _, _, _, _, _, _, _, _, _, _, _, _, _, _, _, _, _, _, _, _, _, _, rfl, by omega, ?_, HMn.out⟩, by simp [intOf]; omega⟩
        have h := HZn.out
        rw [hlen] at h
        rwa [show ((k + 1 : Nat) : Int) * g.z = (k : Int) * g.z + (g.z.toNat : Int) by rw [Int.toNat_of_nonneg (by omega)]; push_cast; rw [Int.add_mul, Int.one_mul]]
    · have hkd : (k : Int) = g.d := by omega
      rw [hkd] at HZk
      obtain ⟨y0, y1⟩ := all_bd H.out
      unfold allI at y0 y1
      have e0 : decide ((k : Int) < g.d) = false := decide_eq_false hlt
      go_upto_region 15 with fail
      clear e0
      have c0 := (HZk.out.G.cell 0).trans (geA_at0 g)
      have c1 := (HZk.out.G.cell 1).trans (geA_at1 g)
      go_cut [12] from 27 (fun s12 wx => s12 = .bool (decide (0 ≤ x ∧ x < g.d * g.z)) ∧ wx = V)
      case first =>
        by_cases h0 : 0 ≤ x
        · by_cases h1 : x < g.d * g.z
          · go_wp2_with fail
            go_meet
            exact ⟨by rw [decide_eq_true (show 0 ≤ x ∧ x < g.d * g.z from ⟨h0, h1⟩)], rfl⟩
          · go_wp2_with fail
            go_meet
            exact ⟨by rw [decide_eq_false (show ¬ (0 ≤ x ∧ x < g.d * g.z) by omega)], rfl⟩
        · go_wp2_with fail
          go_meet
          exact ⟨by rw [decide_eq_false (show ¬ (0 ≤ x ∧ x < g.d * g.z) by omega)], rfl⟩
      case rest =>
      obtain ⟨rfl, rfl⟩ := hcut
      clear c0 c1
      go_upto_region 16 with fail
      go_cut [12, 80] from 27 (fun s12 s80 wx => s80 = .bool false ∧ Below wc.heap.size wc wx)
      case first =>
        by_cases hT : 0 ≤ x ∧ x < g.d * g.z
        · have hq : 0 ≤ x / g.z := Int.ediv_nonneg hT.1 (by omega)
          have hqd : x / g.z < g.d := (Int.ediv_lt_iff_lt_mul (by omega)).2 hT.2
          have hd : domI g x = x / g.z := by unfold domI; rw [if_pos ⟨hT.1, hqd⟩]
          have hn : (x / g.z == -1) = false := by rw [beq_eq_false_iff_ne]; omega
          have hh : holB g x f = wB f 0 (g.s - 1) := by unfold holB; rw [Hr.out, decide_eq_true (show 0 ≤ x ∧ x / g.z < g.d from ⟨hT.1, hqd⟩)]; rfl
          rw [decide_eq_true hT]
          have Hd := Lib.hid hd
          have Hh := Lib.hid hh
          clear hT hd hh hqd
          obtain ⟨v, hv⟩ : ∃ v, wB f 0 (g.s - 1) = v := ⟨_, rfl⟩
          rw [hv] at Hh
          have Hv := Lib.hid hv
          clear hv
          have HG := Lib.hid HZk.out.G
          go_wp2_with (first | (refine wpl_load_g (by rfl) _ rfl (w.heap.size) rfl _ _ _ HG.out Try.underlying23 rfl (info_geA g) ?_; go_frame))
          refine (holds_any g x f _ hx).mono ?_
          rintro e W1 ⟨rfl, hb1⟩
          rw [Hh.out]
          have HG1 := Lib.hid (HG.out.below hb1 HG.out.lt)
          have HB1 := Lib.hid hb1
          have c2 := (HG1.out.cell 2).trans (geA_at2 g)
          clear HG hb1 Hh
          cases v with
          | true =>
            obtain ⟨f0, f1⟩ := (wB_iff _ _ _).1 Hv.out
            have f2 : f < g.s := by omega
            clear f1
            go_wp2_with (first | (refine wpl_load_g (by rfl) _ rfl (w.heap.size) rfl _ _ _ HG1.out Try.underlying23 rfl (info_geA g) ?_; go_frame))
            refine (domain_any g x _ H.out hx).mono ?_
            rintro e W2 ⟨rfl, hb2⟩
            rw [Hd.out]
            go_wp2_with fail
            go_meet
            exact ⟨rfl, bthen' HB1.out hb2⟩
          | false =>
            have hnn : ¬ (0 ≤ f ∧ f ≤ g.s - 1) := fun h => by have := (wB_iff _ _ _).2 h; rw [Hv.out] at this; cases this
            by_cases f0 : 0 ≤ f
            · have f2 : decide (f < g.s) = false := decide_eq_false (by omega)
              clear hnn
              go_wp2_with (first | (refine wpl_load_g (by rfl) _ rfl (w.heap.size) rfl _ _ _ HG1.out Try.underlying23 rfl (info_geA g) ?_; go_frame))
              refine (domain_any g x _ H.out hx).mono ?_
              rintro e W2 ⟨rfl, hb2⟩
              rw [Hd.out]
              go_wp2_with fail
              go_meet
              exact ⟨rfl, bthen' HB1.out hb2⟩
            · have f3 : decide (0 ≤ f) = false := decide_eq_false f0
              clear hnn
              go_wp2_with (first | (refine wpl_load_g (by rfl) _ rfl (w.heap.size) rfl _ _ _ HG1.out Try.underlying23 rfl (info_geA g) ?_; go_frame))
              refine (domain_any g x _ H.out hx).mono ?_
              rintro e W2 ⟨rfl, hb2⟩
              rw [Hd.out]
              go_wp2_with fail
              go_meet
              exact ⟨rfl, bthen' HB1.out hb2⟩
        · have hno : ¬ (0 ≤ x ∧ x / g.z < g.d) := fun h => hT ⟨h.1, (Int.ediv_lt_iff_lt_mul (by omega)).1 h.2⟩
          have hd : domI g x = -1 := by unfold domI; rw [if_neg hno]
          have hh : holB g x f = false := by unfold holB; rw [Hr.out, decide_eq_false hno]; rfl
          rw [decide_eq_false hT]
          have Hd := Lib.hid hd
          have Hh := Lib.hid hh
          clear hT hd hh hno
          have HG := Lib.hid HZk.out.G
          go_wp2_with (first | (refine wpl_load_g (by rfl) _ rfl (w.heap.size) rfl _ _ _ HG.out Try.underlying23 rfl (info_geA g) ?_; go_frame))
          refine (holds_any g x f _ hx).mono ?_
          rintro e W1 ⟨rfl, hb1⟩
          rw [Hh.out]
          have HG1 := Lib.hid (HG.out.below hb1 HG.out.lt)
          have HB1 := Lib.hid hb1
          clear HG hb1 Hh
          go_wp2_with (first | (refine wpl_load_g (by rfl) _ rfl (w.heap.size) rfl _ _ _ HG1.out Try.underlying23 rfl (info_geA g) ?_; go_frame))
          refine (domain_any g x _ H.out hx).mono ?_
          rintro e W2 ⟨rfl, hb2⟩
          rw [Hd.out]
          go_wp2_with fail
          go_meet
          exact ⟨rfl, bthen' HB1.out hb2⟩
      case rest =>
      obtain ⟨rfl, hbc⟩ := hcut
      have HZ5 := Lib.hid (HZk.out.below hbc)
      have HM5 := Lib.hid (HMk.out.mono (keepsOthers_below hbc))
      clear hbc HZk HMk hkd hk hlt
      go_upto_region 19 with fail
      have hsb : w.heap.size + 3 ≤ wc.heap.size := Nat.le_trans HZ5.out.le (Nat.le_of_lt HZ5.out.N.lt)
      have hne : nb ≠ wc.heap.size := Nat.ne_of_lt HZ5.out.N.lt
      have HZ6 := Lib.hid (HZ5.out.below (below_alloc wc (Obj.cells #[.int .i64 0] 3)))
      have HS6 := Lib.hid (Blk.new wc 3 #[.int .i64 0])
      have HM6 := Lib.hid (HM5.out.mono (KeepsOthers.alloc wc (Obj.cells #[.int .i64 0] 3)))
      clear HZ5 HM5
      generalize wc.alloc (Obj.cells #[.int .i64 0] 3) = X6 at *
      generalize wc.heap.size = sb at *
      have HG6 := Lib.hid HZ6.out.G
      go_wp2_with (first | (refine wpl_load rfl _ rfl (w.heap.size) rfl _ _ _ HG6.out Try.underlying23 rfl (info_geA g) ?_; go_frame))
      clear HG6
      refine (in_any g (0) _).mono ?_
      rintro e V6 ⟨rfl, rfl⟩
      have hG2 := (Blk.new X6 23 (geA g)).alloc (Obj.cells #[.int .i64 (0)] 3)
      have hD2 := Blk.new (X6.alloc (Obj.cells (geA g) 23)) 3 #[.int .i64 (0)]
      rw [show (X6.alloc (Obj.cells (geA g) 23)).heap.size = X6.heap.size + 1 by simp] at hD2
      have hb2 := bthen' (below_alloc X6 (Obj.cells (geA g) 23)) (below_alloc _ (Obj.cells #[.int .i64 (0)] 3))
      have hZ2 := HZ6.out.below hb2
      have hK2 := HS6.out.below hb2 HS6.out.lt
      have hM2 := HM6.out.mono (keepsOthers_below hb2)
      go_wp2_with fail
      generalize (X6.alloc (Obj.cells (geA g) 23)).alloc (Obj.cells #[.int .i64 (0)] 3) = V6 at *
      clear HZ6 HS6 HM6 hb2
      have hlen : (zoI g 0).length = g.z.toNat := by rw [zo_in (g := g) (Int.le_refl 0) (by omega), upz_length]
      refine wp_range (zs := zoI g 0) (w0 := V6) rfl (enters_of Try.func26 (by kernel_rfl) rfl) (in_gives _ _ g 0 7 (by decide) H.out V6 (blk_one hD2) hG2 hD2.lt) (Below.refl _ _) rfl
        (fun pre W => ZI g stop w nb (g.d * g.z) W ∧ (Blk W sb 3 #[.int .i64 (pre.length : Int)] ∧ (Marks w.heap.size ds W ∧ V6.heap.size ≤ W.heap.size))) (fun c _ W => c = .exit 4 ∧ (ZI g stop w nb (g.d * g.z) W ∧ (Blk W sb 3 #[.int .i64 stop] ∧ (Marks w.heap.size ds W ∧ V6.heap.size ≤ W.heap.size))))
        (OwnFrom.and (ZI.own (fun _ => g.d * g.z) hZ2.B.size) (OwnFrom.and (Own.from (blk_own _ _ (fun pre : List Int => #[.int .i64 (pre.length : Int)])) _) (ownFrom_marks hM2 (Nat.le_refl _))))
        (fun c => OwnFrom.and (ownFrom_pure' (fun _ => c = .exit 4)) (OwnFrom.and (ZI.own (fun _ => g.d * g.z) hZ2.B.size) (OwnFrom.and (Own.from (blk_own _ _ (fun _ => _)) _) (ownFrom_marks hM2 (Nat.le_refl _))))) ⟨hZ2, by simpa using hK2, hM2, Nat.le_refl _⟩ ?a6 ?assign6 ?body6 ?done6 ?stop6
      case assign6 =>
        intro l y W K hK
        gi_wp2
        exact hK
      case body6 =>
        rintro l pre y W ⟨hZ, hS, hM, hW⟩ hpl
        rw [hlen] at hpl
        have hlx : (pre.length : Int) < 64 := by omega
        have cS := blk_one hS
        have fS := hS.frozen 0
        have cP := blk_one hZ.S
        have HZ0 := Lib.hid hZ
        have HS0 := Lib.hid hS
        have HM0 := Lib.hid hM
        have hko := KeepsOthers.setCell W ⟨sb, 0, none⟩ (.int .i64 ((pre.length : Int) + 1))
        have HKo := Lib.hid hko
        have HZn := Lib.hid (hZ.far (.int .i64 ((pre.length : Int) + 1)) hne hsb)
        have HSn := Lib.hid (blk_set1 hS (.int .i64 ((pre.length : Int) + 1)))
        clear hZ hS hM hZ2 hK2 hM2 hG2 hD2 hko
        by_cases hst : (pre.length : Int) + 1 = stop
        · have hst' : ((pre.length : Int) + 1 == stop) = true := by simpa using hst
          have Hst := Lib.hid hst
          have HW := Lib.hid hW
          clear hst hW
          gi_wp2
          exact ⟨HKo.out, rfl, HZn.out, by have h := HSn.out; rw [Hst.out] at h ⊢; exact h, HM0.out.mono HKo.out, Nat.le_trans HW.out HKo.out.size⟩
        · have hst' : ((pre.length : Int) + 1 == stop) = false := by simpa using hst
          have HW := Lib.hid hW
          clear hst hW
          gi_wp2
          exact ⟨HKo.out, trivial, HZn.out, by rw [List.length_append]; exact HSn.out, HM0.out.mono HKo.out, Nat.le_trans HW.out HKo.out.size⟩
      case stop6 =>
        rintro D c pre X7 hD hp ⟨rfl, hZ, hK, hM, hW⟩ hd
        have hMc := Marks.cons hM2 hZ2.B.size hD hd hM
        clear hM2 hM hd
        generalize ({ target := .collected D, args := #[] } : Deferred) :: ds = ds7 at *
        have HM7 := Lib.hid hMc
        have HZ7 := Lib.hid hZ
        have HS7 := Lib.hid hK
        clear hMc hZ hK hW hD hZ2 hK2 hG2 hD2 hp
        have HG7 := Lib.hid HZ7.out.G
        have c0 := (HZ7.out.G.cell 0).trans (geA_at0 g)
        go_wp2_with (first | (refine wpl_load rfl _ rfl (w.heap.size) rfl _ _ _ HG7.out Try.underlying23 rfl (info_geA g) ?_; go_frame))
        clear HG7 c0
        refine (in_any g (g.d) _).mono ?_
        rintro e V7 ⟨rfl, rfl⟩
        have hG2 := (Blk.new X7 23 (geA g)).alloc (Obj.cells #[.int .i64 (g.d)] 3)
        have hD2 := Blk.new (X7.alloc (Obj.cells (geA g) 23)) 3 #[.int .i64 (g.d)]
        rw [show (X7.alloc (Obj.cells (geA g) 23)).heap.size = X7.heap.size + 1 by simp] at hD2
        have hb2 := bthen' (below_alloc X7 (Obj.cells (geA g) 23)) (below_alloc _ (Obj.cells #[.int .i64 (g.d)] 3))
        have hZ2 := HZ7.out.below hb2
        have hK2 := HS7.out.below hb2 HS7.out.lt
        have hM2 := HM7.out.mono (keepsOthers_below hb2)
        go_wp2_with fail
        generalize (X7.alloc (Obj.cells (geA g) 23)).alloc (Obj.cells #[.int .i64 (g.d)] 3) = V7 at *
        clear HZ7 HS7 HM7 hb2
        refine wp_range (zs := zoI g (g.d)) (w0 := V7) rfl (enters_of Try.func26 (by kernel_rfl) rfl) (in_gives _ _ g (g.d) 7 (by decide) H.out V7 (blk_one hD2) hG2 hD2.lt) (Below.refl _ _) rfl
          (fun _ W => ZI g stop w nb (g.d * g.z) W ∧ (Blk W sb 3 #[.int .i64 (stop)] ∧ (Marks w.heap.size ds7 W ∧ V7.heap.size ≤ W.heap.size))) (fun _ _ _ => False)
          (OwnFrom.and (ZI.own (fun _ => g.d * g.z) hZ2.B.size) (OwnFrom.and (Own.from (blk_own _ _ (fun _ => _)) _) (ownFrom_marks hM2 (Nat.le_refl _)))) (fun _ _ _ _ _ hs _ _ => hs) ⟨hZ2, hK2, hM2, Nat.le_refl _⟩ ?a7s ?assign7s ?body7s ?done7s ?stop7s
        case assign7s =>
          intro l y W K hK
          gi_wp2
          exact hK
        case stop7s =>
          rintro D c pre W hD hp h _
          exact h.elim
        case body7s =>
          rintro l pre y W _ hpl
          rw [zo_out (Or.inr (Int.le_refl _))] at hpl
          exact absurd hpl (by simp)
        case done7s =>
        rintro D X8 hD ⟨hZ, hK, hM, hW⟩ hd
        have hMc := Marks.cons hM2 hZ2.B.size hD hd hM
        clear hM2 hM hd
        generalize ({ target := .collected D, args := #[] } : Deferred) :: ds7 = ds8 at *
        have HM8 := Lib.hid hMc
        have HZ8 := Lib.hid hZ
        have HS8 := Lib.hid hK
        clear hMc hZ hK hW hD hZ2 hK2 hG2 hD2
        have HG8 := Lib.hid HZ8.out.G
        go_wp2_with (first | (refine wpl_load rfl _ rfl (w.heap.size) rfl _ _ _ HG8.out Try.underlying23 rfl (info_geA g) ?_; go_frame))
        clear HG8
        refine (in_any g (-1) _).mono ?_
        rintro e V8 ⟨rfl, rfl⟩
        have hG2 := (Blk.new X8 23 (geA g)).alloc (Obj.cells #[.int .i64 (-1)] 3)
        have hD2 := Blk.new (X8.alloc (Obj.cells (geA g) 23)) 3 #[.int .i64 (-1)]
        rw [show (X8.alloc (Obj.cells (geA g) 23)).heap.size = X8.heap.size + 1 by simp] at hD2
        have hb2 := bthen' (below_alloc X8 (Obj.cells (geA g) 23)) (below_alloc _ (Obj.cells #[.int .i64 (-1)] 3))
        have hZ2 := HZ8.out.below hb2
        have hK2 := HS8.out.below hb2 HS8.out.lt
        have hM2 := HM8.out.mono (keepsOthers_below hb2)
        go_wp2_with fail
        generalize (X8.alloc (Obj.cells (geA g) 23)).alloc (Obj.cells #[.int .i64 (-1)] 3) = V8 at *
        clear HZ8 HS8 HM8 hb2
        refine wp_range (zs := zoI g (-1)) (w0 := V8) rfl (enters_of Try.func26 (by kernel_rfl) rfl) (in_gives _ _ g (-1) 7 (by decide) H.out V8 (blk_one hD2) hG2 hD2.lt) (Below.refl _ _) rfl
          (fun _ W => ZI g stop w nb (g.d * g.z) W ∧ (Blk W sb 3 #[.int .i64 (stop)] ∧ (Marks w.heap.size ds8 W ∧ V8.heap.size ≤ W.heap.size))) (fun _ _ _ => False)
          (OwnFrom.and (ZI.own (fun _ => g.d * g.z) hZ2.B.size) (OwnFrom.and (Own.from (blk_own _ _ (fun _ => _)) _) (ownFrom_marks hM2 (Nat.le_refl _)))) (fun _ _ _ _ _ hs _ _ => hs) ⟨hZ2, hK2, hM2, Nat.le_refl _⟩ ?a8s ?assign8s ?body8s ?done8s ?stop8s
        case assign8s =>
          intro l y W K hK
          gi_wp2
          exact hK
        case stop8s =>
          rintro D c pre W hD hp h _
          exact h.elim
        case body8s =>
          rintro l pre y W _ hpl
          rw [zo_out (Or.inl (by decide))] at hpl
          exact absurd hpl (by simp)
        case done8s =>
        rintro D X9 hD ⟨hZ, hK, hM, hW⟩ hd
        have hMc := Marks.cons hM2 hZ2.B.size hD hd hM
        clear hM2 hM hd
        generalize ({ target := .collected D, args := #[] } : Deferred) :: ds8 = ds9 at *
        have HM9 := Lib.hid hMc
        have HZ9 := Lib.hid hZ
        have HS9 := Lib.hid hK
        clear hMc hZ hK hW hD hZ2 hK2 hG2 hD2
        have c0 := (HZ9.out.G.cell 0).trans (geA_at0 g)
        have c1 := (HZ9.out.G.cell 1).trans (geA_at1 g)
        have cN := blk_one HZ9.out.N
        have cT := blk_one HZ9.out.T
        have fT := HZ9.out.T.frozen 0
        have cP := blk_one HZ9.out.S
        have cS := blk_one HS9.out
        go_wp2_with fail
        all_goals exact leave_marks (HM9.out.mono (KeepsOthers.setCell _ _ _)) (fun w' hw' => ⟨_, results_cell1 Try.results4 _ _ ⟨w.heap.size + 2, 0, none⟩ (.bool true) rfl (agg_bool _) (blk_one (hw'.same _ _ _ (blk_set1 HZ9.out.T (.bool true)))), rfl, (HZ9.out.B.setCell (p := ⟨w.heap.size + 2, 0, none⟩) (by simp) _).trans hw'.bel⟩)

      case done6 =>
      rintro D X7 hD ⟨hZ, hK, hM, hW⟩ hd
      rw [hlen, show ((g.z.toNat : Nat) : Int) = g.z from Int.toNat_of_nonneg (by omega)] at hK
      have hMc := Marks.cons hM2 hZ2.B.size hD hd hM
      clear hM2 hM hd
      generalize ({ target := .collected D, args := #[] } : Deferred) :: ds = ds7 at *
      have HM7 := Lib.hid hMc
      have HZ7 := Lib.hid hZ
      have HS7 := Lib.hid hK
      clear hMc hZ hK hW hD hZ2 hK2 hG2 hD2
      have HG7 := Lib.hid HZ7.out.G
      have c0 := (HZ7.out.G.cell 0).trans (geA_at0 g)
      go_wp2_with (first | (refine wpl_load rfl _ rfl (w.heap.size) rfl _ _ _ HG7.out Try.underlying23 rfl (info_geA g) ?_; go_frame))
      clear HG7 c0
      refine (in_any g (g.d) _).mono ?_
      rintro e V7 ⟨rfl, rfl⟩
      have hG2 := (Blk.new X7 23 (geA g)).alloc (Obj.cells #[.int .i64 (g.d)] 3)
      have hD2 := Blk.new (X7.alloc (Obj.cells (geA g) 23)) 3 #[.int .i64 (g.d)]
      rw [show (X7.alloc (Obj.cells (geA g) 23)).heap.size = X7.heap.size + 1 by simp] at hD2
      have hb2 := bthen' (below_alloc X7 (Obj.cells (geA g) 23)) (below_alloc _ (Obj.cells #[.int .i64 (g.d)] 3))
      have hZ2 := HZ7.out.below hb2
      have hK2 := HS7.out.below hb2 HS7.out.lt
      have hM2 := HM7.out.mono (keepsOthers_below hb2)
      go_wp2_with fail
      generalize (X7.alloc (Obj.cells (geA g) 23)).alloc (Obj.cells #[.int .i64 (g.d)] 3) = V7 at *
      clear HZ7 HS7 HM7 hb2
      refine wp_range (zs := zoI g (g.d)) (w0 := V7) rfl (enters_of Try.func26 (by kernel_rfl) rfl) (in_gives _ _ g (g.d) 7 (by decide) H.out V7 (blk_one hD2) hG2 hD2.lt) (Below.refl _ _) rfl
        (fun _ W => ZI g stop w nb (g.d * g.z) W ∧ (Blk W sb 3 #[.int .i64 (g.z)] ∧ (Marks w.heap.size ds7 W ∧ V7.heap.size ≤ W.heap.size))) (fun _ _ _ => False)
        (OwnFrom.and (ZI.own (fun _ => g.d * g.z) hZ2.B.size) (OwnFrom.and (Own.from (blk_own _ _ (fun _ => _)) _) (ownFrom_marks hM2 (Nat.le_refl _)))) (fun _ _ _ _ _ hs _ _ => hs) ⟨hZ2, hK2, hM2, Nat.le_refl _⟩ ?a7d ?assign7d ?body7d ?done7d ?stop7d
      case assign7d =>
        intro l y W K hK
        gi_wp2
        exact hK
      case stop7d =>
        rintro D c pre W hD hp h _
        exact h.elim
      case body7d =>
        rintro l pre y W _ hpl
        rw [zo_out (Or.inr (Int.le_refl _))] at hpl
        exact absurd hpl (by simp)
      case done7d =>
      rintro D X8 hD ⟨hZ, hK, hM, hW⟩ hd
      have hMc := Marks.cons hM2 hZ2.B.size hD hd hM
      clear hM2 hM hd
      generalize ({ target := .collected D, args := #[] } : Deferred) :: ds7 = ds8 at *
      have HM8 := Lib.hid hMc
      have HZ8 := Lib.hid hZ
      have HS8 := Lib.hid hK
      clear hMc hZ hK hW hD hZ2 hK2 hG2 hD2
      have HG8 := Lib.hid HZ8.out.G
      go_wp2_with (first | (refine wpl_load rfl _ rfl (w.heap.size) rfl _ _ _ HG8.out Try.underlying23 rfl (info_geA g) ?_; go_frame))
      clear HG8
      refine (in_any g (-1) _).mono ?_
      rintro e V8 ⟨rfl, rfl⟩
      have hG2 := (Blk.new X8 23 (geA g)).alloc (Obj.cells #[.int .i64 (-1)] 3)
      have hD2 := Blk.new (X8.alloc (Obj.cells (geA g) 23)) 3 #[.int .i64 (-1)]
      rw [show (X8.alloc (Obj.cells (geA g) 23)).heap.size = X8.heap.size + 1 by simp] at hD2
      have hb2 := bthen' (below_alloc X8 (Obj.cells (geA g) 23)) (below_alloc _ (Obj.cells #[.int .i64 (-1)] 3))
      have hZ2 := HZ8.out.below hb2
      have hK2 := HS8.out.below hb2 HS8.out.lt
      have hM2 := HM8.out.mono (keepsOthers_below hb2)
      go_wp2_with fail
      generalize (X8.alloc (Obj.cells (geA g) 23)).alloc (Obj.cells #[.int .i64 (-1)] 3) = V8 at *
      clear HZ8 HS8 HM8 hb2
      refine wp_range (zs := zoI g (-1)) (w0 := V8) rfl (enters_of Try.func26 (by kernel_rfl) rfl) (in_gives _ _ g (-1) 7 (by decide) H.out V8 (blk_one hD2) hG2 hD2.lt) (Below.refl _ _) rfl
        (fun _ W => ZI g stop w nb (g.d * g.z) W ∧ (Blk W sb 3 #[.int .i64 (g.z)] ∧ (Marks w.heap.size ds8 W ∧ V8.heap.size ≤ W.heap.size))) (fun _ _ _ => False)
        (OwnFrom.and (ZI.own (fun _ => g.d * g.z) hZ2.B.size) (OwnFrom.and (Own.from (blk_own _ _ (fun _ => _)) _) (ownFrom_marks hM2 (Nat.le_refl _)))) (fun _ _ _ _ _ hs _ _ => hs) ⟨hZ2, hK2, hM2, Nat.le_refl _⟩ ?a8d ?assign8d ?body8d ?done8d ?stop8d
      case assign8d =>
        intro l y W K hK
        gi_wp2
        exact hK
      case stop8d =>
        rintro D c pre W hD hp h _
        exact h.elim
      case body8d =>
        rintro l pre y W _ hpl
        rw [zo_out (Or.inl (by decide))] at hpl
        exact absurd hpl (by simp)
      case done8d =>
      rintro D X9 hD ⟨hZ, hK, hM, hW⟩ hd
      have hMc := Marks.cons hM2 hZ2.B.size hD hd hM
      clear hM2 hM hd
      generalize ({ target := .collected D, args := #[] } : Deferred) :: ds8 = ds9 at *
      have HM9 := Lib.hid hMc
      have HZ9 := Lib.hid hZ
      have HS9 := Lib.hid hK
      clear hMc hZ hK hW hD hZ2 hK2 hG2 hD2
      have c0 := (HZ9.out.G.cell 0).trans (geA_at0 g)
      have c1 := (HZ9.out.G.cell 1).trans (geA_at1 g)
      have cN := blk_one HZ9.out.N
      have cT := blk_one HZ9.out.T
      have fT := HZ9.out.T.frozen 0
      have cP := blk_one HZ9.out.S
      have cS := blk_one HS9.out
      go_wp2_with fail
      all_goals exact leave_marks (HM9.out.mono (KeepsOthers.setCell _ _ _)) (fun w' hw' => ⟨_, results_cell1 Try.results4 _ _ ⟨w.heap.size + 2, 0, none⟩ (.bool true) rfl (agg_bool _) (blk_one (hw'.same _ _ _ (blk_set1 HZ9.out.T (.bool true)))), rfl, (HZ9.out.B.setCell (p := ⟨w.heap.size + 2, 0, none⟩) (by simp) _).trans hw'.bel⟩)


theorem walkGeomZones (g : GeR) (x f stop : Int) (w : World) (h : GeOk g) (hx : (Lit.int .i64 x).wf = true) (hf : (Lit.int .i64 f).wf = true) (hs : (Lit.int .i64 stop).wf = true) :
    Calls Try.prog 4 #[.agg (geA g), .int .i64 x, .int .i64 f, .int .i64 stop] w fun e w' => e = .returned (.bool true) ∧ Below w.heap.size w w' := by
  have hb := (bounds_i64 hx).2
  cases hr : gB g with
  | false => exact walkZones_n g x f stop w hb hr
  | true => exact walkZones_t g x f stop w hb hr

end Go.Proofs.Ytkjjhcpfblhijaa
