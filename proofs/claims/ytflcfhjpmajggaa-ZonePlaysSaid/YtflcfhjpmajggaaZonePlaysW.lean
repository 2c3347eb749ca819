/-
  The walk of ZonePlays.
-/
import Derived.Test.YtflcfhjpmajggaaZoneH
import Derived.Test.YtflcfhjpmajggaaZoneI
namespace Go.Proofs.Ytflcfhjpmajggaa
open Go.RowKit Go.Shelf
attribute [local go_sem] Oper.semAt_some
set_option linter.unusedVariables false
set_option linter.unnecessarySimpa false
set_option linter.unusedSimpArgs false

theorem Try.infoOp : (Try.prog.info? 32).map (·.size) = some 3 := by kernel_rfl
/-- What lies in memory while both are played: stop at block n, the document's zone at block X, the zone at block A. -/
structure PlI (stop : Int) (w : World) (A X : Nat) (v u : Value) (z : ZoR) (r : RfR) (W : World) : Prop where
  S : Blk W w.heap.size 3 #[.int .i64 stop]
  bX : Blk W X 30 (rfA r u)
  z : ZAt 56 3 (w.heap.size + 1) W A v z
  own : W.ownsRow (w.heap.size + 1) 3 1 u r.zs.length (ivals r.zs)
  ap : ∀ g, u.ownBlock = some g → v.ownBlock ≠ some g
  B : Below w.heap.size w W
  le : w.heap.size + 1 ≤ X
section
variable {stop : Int} {w : World} {A X : Nat} {v u v' u' : Value} {z z' : ZoR} {r r' : RfR} {W W' W2 W3 : World}
theorem PlI.below (h : PlI stop w A X v u z r W) (hb : Below W.heap.size W W') : PlI stop w A X v u z r W' :=
  ⟨h.S.below hb h.S.lt, h.bX.below hb h.bX.lt, h.z.below hb, own_below h.own hb, h.ap, bthen' h.B hb, h.le⟩
theorem PlI.lo (h : PlI stop w A X v u z r W) : w.heap.size + 1 ≤ W.heap.size := h.S.lt
theorem PlI.keepX (h : PlI stop w A X v u z r W) (k : Kept (ZF A v) W W2) : Blk W2 X 30 (rfA r u) :=
  h.bX.kept k (fun hS => by
    rcases hS with e | e
    · exact Blk.unlike h.bX h.z.blk (by decide) e
    · exact own_unlike h.z.own h.bX (by decide) e.symm)
theorem PlI.next (h : PlI stop w A X v u z r W) (hz : ZAt 56 3 (w.heap.size + 1) W2 A v' z') (ho : W2.ownsRow (w.heap.size + 1) 3 1 u' r'.zs.length (ivals r'.zs)) (hap : ∀ g, u'.ownBlock = some g → v'.ownBlock ≠ some g) (k : Kept (ZF A v) W W2)
    (hX : Blk W3 X 30 (rfA r' u')) (hk : Kept (· = X) W2 W3) : PlI stop w A X v' u' z' r' W3 := by
  have hX2 := h.keepX k
  have hle := h.le
  refine ⟨(h.S.kept k (fun hS => by have := h.z.lov hS; omega)).kept hk (by omega), hX, hz.kept hk (fun i hi e => ?_), own_kept ho hk (fun g hg e => own_unlike ho hX2 (by decide) (by rw [hg]; exact congrArg some e.symm)), hap, ?_, h.le⟩
  · subst e
    rcases hi with e | e
    · exact Blk.unlike hX2 hz.blk (by decide) e
    · exact own_unlike hz.own hX2 (by decide) e.symm
  · have hb2 : Below w.heap.size w W2 := bkept h.B (Nat.le_refl _) k (fun i hi hS => by have := h.z.lov hS; omega)
    exact bkept hb2 (Nat.le_refl _) hk (fun i hi e => by omega)
theorem PlI.ownF {B : Nat} (hB : w.heap.size ≤ B) : OwnFrom (β := List (Nat × Int)) B (fun _ W => PlI stop w A X v u z r W) := fun s Y Y' row h hg hr =>
  ⟨Own.from (blk_own (β := List (Nat × Int)) _ _ (fun _ => _)) B s Y Y' row h.S hg hr, Own.from (blk_own (β := List (Nat × Int)) _ _ (fun _ => _)) B s Y Y' row h.bX hg hr,
    ⟨Own.from (blk_own (β := List (Nat × Int)) _ _ (fun _ => _)) B s Y Y' row h.z.blk hg hr, ownFrom_row (fun _ => v) (fun _ => z.xs.length) (fun _ => z.xs) s Y Y' row h.z.own hg hr, h.z.le⟩,
    ownFrom_row (fun _ => u) (fun _ => r.zs.length) (fun _ => ivals r.zs) s Y Y' row h.own hg hr, h.ap, ownFrom_below (β := List (Nat × Int)) (Nat.le_refl _) hB s Y Y' row h.B hg hr, h.le⟩
/-- A cell of ints that was made since is written. -/
theorem PlI.set {m : Nat} (h : PlI stop w A X v u z r W) (h1 : w.heap.size < m) (h2 : X ≠ m) (h3 : ∀ i, ZF A v i → i ≠ m) (h4 : ∀ g, u.ownBlock = some g → g ≠ m) (x : Value) : PlI stop w A X v u z r (W.setCell ⟨m, 0, none⟩ x) :=
  ⟨h.S.far (by simp; omega) _, h.bX.far (by simpa using h2) _, h.z.kept ((Kept.refl (· = m) W).setCell (p := ⟨m, 0, none⟩) rfl _) (fun i hi e => h3 i hi e),
    own_same h.own (fun g hg => Below.heap_setCell _ _ _ _ (fun e => h4 g hg e)), h.ap, h.B.setCell (p := ⟨m, 0, none⟩) (by simp; omega) _, h.le⟩
end

set_option maxRecDepth 100000 in
set_option maxHeartbeats 2000000 in
theorem walkZonePlays_n (size : Int) (a : Option Addr) (len cap : Nat) (stop : Int) (w : World) (h : size < 1 ∨ 64 < size) : Calls Try.prog 3 #[.int .i64 size, .slice a len cap, .int .i64 stop] w fun e w' => e = .returned (.bool true) ∧ Below w.heap.size w w' := by
  have HB0 := Lib.hid (below_alloc w (Obj.cells #[.int .i64 stop] 3))
  have HS0 := Lib.hid (Blk.new w 3 #[.int .i64 stop])
  refine calls_marks Try.func3 rfl ?_
  simp only [Try.ntmps3, List.size_toArray, List.length_cons, List.length_nil, Nat.reduceAdd, Nat.reduceSub, Array.replicate_succ, Array.replicate_zero, List.push_toArray, List.append_toArray, List.nil_append, List.cons_append]
  go_upto_region 1 with fail
  generalize w.alloc (Obj.cells #[.int .i64 stop] 3) = w0 at *
  go_wp2_with fail
  refine (anchor6_any _).mono ?_
  rintro e w1 ⟨rfl, hb⟩
  have HS1 := Lib.hid (HS0.out.below hb HS0.out.lt)
  have HB1 := Lib.hid (bthen' HB0.out hb)
  clear HS0 HB0 hb
  go_wp2_with fail
  refine (znewI_no size _ h).mono ?_
  rintro e w2 ⟨rfl, rfl⟩
  rcases h with h | h
  · go_wp2_with fail
    exact leave_marks (Marks.nil w.heap.size _) (fun w' hw' => ⟨_, results_tmp rfl _ _ _, rfl, (HB1.out).trans hw'.bel⟩)
  · have h' : ¬ size < 1 := by omega
    go_wp2_with fail
    exact leave_marks (Marks.nil w.heap.size _) (fun w' hw' => ⟨_, results_tmp rfl _ _ _, rfl, (HB1.out).trans hw'.bel⟩)

set_option maxRecDepth 100000 in
set_option maxHeartbeats 2000000 in
theorem walkZonePlays_l (size : Int) (a : Option Addr) (len cap : Nat) (stop : Int) (w : World) (h1 : 1 ≤ size) (h2 : size ≤ 64) (hl : 80 < len) : Calls Try.prog 3 #[.int .i64 size, .slice a len cap, .int .i64 stop] w fun e w' => e = .returned (.bool true) ∧ Below w.heap.size w w' := by
  have HB0 := Lib.hid (below_alloc w (Obj.cells #[.int .i64 stop] 3))
  have HS0 := Lib.hid (Blk.new w 3 #[.int .i64 stop])
  refine calls_marks Try.func3 rfl ?_
  simp only [Try.ntmps3, List.size_toArray, List.length_cons, List.length_nil, Nat.reduceAdd, Nat.reduceSub, Array.replicate_succ, Array.replicate_zero, List.push_toArray, List.append_toArray, List.nil_append, List.cons_append]
  go_upto_region 1 with fail
  generalize w.alloc (Obj.cells #[.int .i64 stop] 3) = w0 at *
  go_wp2_with fail
  refine (anchor6_any _).mono ?_
  rintro e w1 ⟨rfl, hb⟩
  have HS1 := Lib.hid (HS0.out.below hb HS0.out.lt)
  have HB1 := Lib.hid (bthen' HB0.out hb)
  clear HS0 HB0 hb
  go_wp2_with fail
  refine (znewI_ok size _ h1 h2).mono ?_
  rintro e w2 ⟨rfl, rfl⟩
  have hn1 : ¬ size < 1 := by omega
  have hn2 : ¬ 64 < size := by omega
  have HB2 := Lib.hid (bthen' HB1.out (below_alloc w1 (Obj.cells (zoA (zo0 size) (.slice none 0 0)) 56)))
  have dl : decide ((80 : Int) < (len : Int)) = true := decide_eq_true (by omega)
  go_wp2_with fail
  exact leave_marks (Marks.nil w.heap.size _) (fun w' hw' => ⟨_, results_tmp rfl _ _ _, rfl, (HB2.out).trans hw'.bel⟩)

set_option maxRecDepth 100000 in
set_option maxHeartbeats 4000000 in
theorem walkZonePlays_t (size : Int) (a : Option Addr) (len cap : Nat) (f : Nat → OpR) (stop : Int) (w : World) (h1 : 1 ≤ size) (h2 : size ≤ 64) (hops : RowOp w a len cap f) (hl : len ≤ 80) : Calls Try.prog 3 #[.int .i64 size, .slice a len cap, .int .i64 stop] w fun e w' => e = .returned (.bool true) ∧ Below w.heap.size w w' := by
  have Hops := Lib.hid hops
  have hcap : len ≤ cap ∧ cap ≤ 9223372036854775807 := by have := hops.max; unfold maxLen at this; exact ⟨hops.le, this⟩
  obtain ⟨hc1, hc2⟩ := hcap
  clear hops
  have HB0 := Lib.hid (below_alloc w (Obj.cells #[.int .i64 stop] 3))
  have HS0 := Lib.hid (Blk.new w 3 #[.int .i64 stop])
  refine calls_marks Try.func3 rfl ?_
  simp only [Try.ntmps3, List.size_toArray, List.length_cons, List.length_nil, Nat.reduceAdd, Nat.reduceSub, Array.replicate_succ, Array.replicate_zero, List.push_toArray, List.append_toArray, List.nil_append, List.cons_append]
  go_upto_region 1 with fail
  generalize w.alloc (Obj.cells #[.int .i64 stop] 3) = w0 at *
  go_wp2_with fail
  refine (anchor6_any _).mono ?_
  rintro e w1 ⟨rfl, hb⟩
  have HS1 := Lib.hid (HS0.out.below hb HS0.out.lt)
  have HB1 := Lib.hid (bthen' HB0.out hb)
  clear HS0 HB0 hb
  go_wp2_with fail
  refine (znewI_ok size _ h1 h2).mono ?_
  rintro e w2 ⟨rfl, rfl⟩
  have hn1 : ¬ size < 1 := by omega
  have hn2 : ¬ 64 < size := by omega
  have hz := zat_new (T := 56) (E := 3) (lo := w.heap.size + 1) w1 size HS1.out.lt
  have HZ2 := Lib.hid hz
  have HS2 := Lib.hid (HS1.out.alloc (Obj.cells (zoA (zo0 size) (.slice none 0 0)) 56))
  have HB2 := Lib.hid (bthen' HB1.out (below_alloc w1 (Obj.cells (zoA (zo0 size) (.slice none 0 0)) 56)))
  have HsA := Lib.hid HS1.out.lt
  clear hz HS1 HB1
  have dl : decide ((80 : Int) < (len : Int)) = false := decide_eq_false (by omega)
  go_upto_region 10 with fail
  clear dl
  generalize w1.alloc (Obj.cells (zoA (zo0 size) (.slice none 0 0)) 56) = w2 at *
  generalize w1.heap.size = A at *
  go_upto_region 11 with (first | (refine wpl_build (by rfl) _ _ rfl (.agg (rfA (rf0 size) (.slice none 0 0))) (fun w => by kernel_rfl) ?_; go_frame) | (refine wpl_store rfl _ _ rfl (w2.heap.size) (rfA (rf0 size) (.slice none 0 0)) rfl rfl _ _ (Blk.new w2 30 _) Try.infoRf rfl (rfA_one _ _ _ _) ?_; intro w3 hSy hKy; have hb3 := (below_alloc w2 (Obj.cells #[.slice none 0 0, .int .i64 0, .int .i64 0, .int .i64 0, .bool false] 30)).trans (hKy.below (B := w2.heap.size) (by simp) (fun k hk e => by omega)); have HI := Lib.hid (show PlI stop w A w2.heap.size (.slice none 0 0) (.slice none 0 0) (zo0 size) (rf0 size) w3 from ⟨HS2.out.below hb3 HS2.out.lt, hSy, HZ2.out.below hb3, own_nil _ _ _, fun g h => by simp [Value.ownBlock] at h, bthen' HB2.out hb3, HS2.out.lt⟩); clear hSy hKy hb3; go_frame))
  clear HS2 HZ2 HB2 HsA
  generalize w2.heap.size = X at *
  have hrel := Rel.start (size := size) ⟨h1, h2⟩
  have hok := zo0_ok (size := size) ⟨h1, h2⟩
  have Hrel := Lib.hid hrel
  have Hok := Lib.hid hok
  clear hrel hok
  go_wp2_with fail
  go_loopw [46] (fun i wr => ∃ (j : Nat) (v u : Value) (z : ZoR) (r : RfR), j ≤ len ∧ i = .int .i64 j ∧ PlI stop w A X v u z r wr ∧ Rel z r ∧ ZOk z) (fun i _ => len - (intOf i).toNat)
  case atStart => exact ⟨0, _, _, _, _, Nat.zero_le _, rfl, HI.out, Hrel.out, Hok.out⟩
  case round =>
    obtain ⟨j, v, u, z, r, hj, rfl, hI, hR, hO⟩ := hrel
    obtain ⟨ua, uc, rfl⟩ := own_slice hI.own
    have Hrel := Lib.hid hR
    have Hok := Lib.hid hO
    have HIr := Lib.hid hI
    clear hI HI hR hO
    by_cases hlt : j < len
    · obtain ⟨b, off, rfl, hat⟩ := (Hops.out.below (HIr.out.B)).cells (by omega)
      obtain ⟨k0, k1, k2, kw⟩ := hat j hlt
      clear hat
      generalize f j = o at *
      go_upto_region 14 with fail
      have HI1 := Lib.hid (HIr.out.below (below_alloc wr (Obj.cells #[.int .i64 o.k, .int .i64 o.x, .int .i64 o.y] 32)))
      have HO1 := Lib.hid (Blk.new wr 32 #[.int .i64 o.k, .int .i64 o.x, .int .i64 o.y])
      clear k0 k1 k2 kw HIr
      generalize wr.alloc (Obj.cells #[.int .i64 o.k, .int .i64 o.x, .int .i64 o.y] 32) = W1 at *
      generalize wr.heap.size = ob at *
      have c1 := (HO1.out.cell 0).trans (rfl : (#[.int .i64 o.k, .int .i64 o.x, .int .i64 o.y] : Array Value)[0]? = some (.int .i64 o.k))
      clear c1
      go_wp2_with (first | (refine wpl_load rfl _ rfl X rfl _ _ _ (HI1.out.bX) Try.underlying30 rfl Try.infoRf ?_; go_frame) | (refine wpl_load rfl _ rfl ob rfl _ _ _ (HO1.out) Try.underlying32 rfl Try.infoOp ?_; go_frame))
      refine (wstep o.k o.x o.y Hrel.out.xs HI1.out.z Hok.out HI1.out.own (Hrel.out.rok Hok.out) HI1.out.ap HI1.out.lo).mono ?_
      rintro e W2 ⟨v', u', rfl, hz', ho', hap', hk', hf'⟩
      obtain ⟨s1, s2, s3⟩ := Hrel.out.step Hok.out o.k o.x o.y
      rw [s1]
      obtain ⟨ua', uc', rfl⟩ := own_slice ho'
      have HX2 := Lib.hid (HI1.out.keepX hk')
      have HN := Lib.hid (fun W3 (hX : Blk W3 X 30 (rfA (stR r o.k o.x o.y) (.slice ua' (stR r o.k o.x o.y).zs.length uc'))) (hk : Kept (· = X) W2 W3) => HI1.out.next hz' ho' hap' hk' hX hk)
      have Hrel' := Lib.hid s2
      have Hok' := Lib.hid s3
      clear hz' ho' hap' hk' hf' s1 s2 s3 Hrel Hok
      go_upto_region 16 with (first | (refine wpl_store rfl _ _ rfl X (rfA (stR r o.k o.x o.y) (.slice ua' (stR r o.k o.x o.y).zs.length uc')) rfl rfl _ _ HX2.out Try.infoRf rfl (rfA_one _ _ _ _) ?_; intro W3 hSy hKy; have HI3 := Lib.hid (HN.out W3 hSy hKy); clear hSy hKy; go_frame))
      clear HN HX2 HI1 HO1
      go_wp2_with (first | (refine wpl_load_g (by rfl) _ rfl X rfl _ _ _ (HI3.out.bX) Try.underlying30 rfl Try.infoRf ?_; go_frame))
      refine (wsame HI3.out.z Hok'.out Hrel'.out.xs HI3.out.own Hrel'.out.state.symm Hrel'.out.safe.symm).mono ?_
      rintro e W4 ⟨rfl, hb⟩
      have HI4 := Lib.hid (HI3.out.below hb)
      clear hb
      go_wp2_with fail
      go_roundw
      case rel => exact ⟨j + 1, _, _, _, _, by omega, by go_num, HI4.out, Hrel'.out, Hok'.out⟩
      case measure => simp [intOf]; omega
    · obtain rfl : j = len := by omega
      go_upto_region 20 with fail
      have hI0 := HIr.out.below (below_alloc wr (Obj.cells #[.int .i64 0] 3))
      have hN0 := Blk.new wr 3 #[.int .i64 0]
      have hlz : z.xs.length = r.zs.length := Hrel.out.len
      have hl64 : z.xs.length ≤ 64 := by have := Hok.out.len; have := Hok.out.size.2; omega
      have hzn : ∀ i, ZF A v i → i ≠ wr.heap.size := fun i hi => by have := HIr.out.z.lt hi; omega
      have hun : ∀ g, (Value.slice ua r.zs.length uc).ownBlock = some g → g ≠ wr.heap.size := fun g hg => by have := own_lt HIr.out.own hg; omega
      have hXn : X ≠ wr.heap.size := Nat.ne_of_lt HIr.out.bX.lt
      have hmn : w.heap.size < wr.heap.size := HIr.out.S.lt
      have Hzn := Lib.hid hzn
      have Hun := Lib.hid hun
      have HI0 := Lib.hid hI0
      have HN0 := Lib.hid hN0
      have Hlz := Lib.hid hlz
      clear hI0 hN0 hzn hun HIr hlz
      generalize wr.alloc (Obj.cells #[.int .i64 0] 3) = V0 at *
      generalize wr.heap.size = nb at *
      go_wp2_with fail
      refine (all_any _).mono ?_
      rintro e w2 ⟨rfl, rfl⟩
      have hB := Blk.new V0 24 #[.pointer (some ⟨A, 0, none⟩)]
      have hS := HI0.out.below (below_alloc V0 (Obj.cells #[.pointer (some ⟨A, 0, none⟩)] 24))
      have hN := HN0.out.alloc (Obj.cells #[.pointer (some ⟨A, 0, none⟩)] 24)
      clear HI0 HN0
      go_wp2_with fail
      generalize V0.heap.size = bp at *
      generalize V0.alloc (Obj.cells #[.pointer (some ⟨A, 0, none⟩)] 24) = V at *
      refine wp_rangeK (N := r.zs.length) (w0 := V) rfl (enters_of Try.func38 (by kernel_rfl) rfl) (all_gives 7 (by decide) V hS.z Hrel.out.xs hl64 hB) (fun h k => h.trans k) (KpRow.put (fun g hg => hS.z.lt (.inr hg))) (Below.refl _ _) (fun _ => rfl)
        (fun pre W => PlI stop w A X v (.slice ua r.zs.length uc) z r W ∧ Blk W nb 3 #[.int .i64 (pre.length : Int)]) (fun c pre W => (c = .exit 2 ∧ (pre.length : Int) = stop) ∧ (PlI stop w A X v (.slice ua r.zs.length uc) z r W ∧ Blk W nb 3 #[.int .i64 (pre.length : Int)]))
        (OwnFrom.and (PlI.ownF hS.B.size) (Own.from (blk_own _ _ (fun pre : List (Nat × Int) => #[.int .i64 (pre.length : Int)])) _)) (fun c => OwnFrom.and (ownFrom_pure' (fun pre : List (Nat × Int) => c = .exit 2 ∧ (pre.length : Int) = stop)) (OwnFrom.and (PlI.ownF hS.B.size) (Own.from (blk_own _ _ (fun pre : List (Nat × Int) => #[.int .i64 (pre.length : Int)])) _))) ⟨hS, by simpa using hN⟩ ?a1 ?assign ?body ?done ?stop
      case assign =>
        intro l x W K hK
        unfold encP
        gi_wp2
        exact hK
      case body =>
        rintro l pre x W ⟨hI, hNb⟩ hpl
        have cN := blk_one hNb
        have fN := hNb.frozen 0
        have cS := blk_one hI.S
        have hl64' : (pre.length : Int) < 64 := by have := Hlz.out; omega
        have HP := Lib.hid (hI.set hmn hXn Hzn.out Hun.out (.int .i64 ((pre.length : Int) + 1)))
        have HPN := Lib.hid (blk_set1 hNb (.int .i64 ((pre.length : Int) + 1)))
        have HKp : Hid (KpRow v W (W.setCell ⟨nb, 0, none⟩ (.int .i64 ((pre.length : Int) + 1)))) := Lib.hid (KpRow.set _ (fun e => Hzn.out _ (.inr e) rfl))
        clear hI hNb hS hN hB
        by_cases hst : (pre.length : Int) + 1 = stop
        · have hst' : ((pre.length : Int) + 1 == stop) = true := by simpa using hst
          have Hst := Lib.hid hst
          clear hst
          gi_wp2
          exact ⟨KeepsOthers.setCell _ _ _, ⟨rfl, by rw [List.length_append]; exact Hst.out⟩, HP.out, by rw [List.length_append]; exact HPN.out⟩
        · have hst' : ((pre.length : Int) + 1 == stop) = false := by simpa using hst
          clear hst
          gi_wp2
          exact ⟨KeepsOthers.setCell _ _ _, HKp.out, HP.out, by rw [List.length_append]; exact HPN.out⟩
      case stop =>
        rintro D c pre W hD hp ⟨⟨rfl, hst⟩, hI, hNb⟩ hd
        have HM := Lib.hid (Marks.cons (B := w.heap.size) (ds := []) (Marks.nil _ V) hS.B.size hD hd (Marks.nil _ W))
        have hpl : pre.length ≤ r.zs.length := by have := hp.length_le; rwa [numb_length] at this
        have cN := blk_one hNb
        have cS := blk_one hI.S
        have c0 : W.cell? ⟨X, 0, none⟩ = some (.slice ua r.zs.length uc) := (hI.bX.cell 0).trans rfl
        have HIe := Lib.hid hI
        clear hI hNb hS hN hB hp hd
        subst hst
        by_cases he : pre.length = r.zs.length
        · have e1 : ((pre.length : Int) == (r.zs.length : Int)) = true := by simp [he]
          clear he
          go_wp2_with fail
          exact leave_marks HM.out (fun w' hw' => ⟨_, results_tmp rfl _ _ _, rfl, HIe.out.B.trans hw'.bel⟩)
        · have e1 : ((pre.length : Int) == (r.zs.length : Int)) = false := by simp; omega
          have e3 : decide (pre.length < r.zs.length) = true := decide_eq_true (by omega)
          clear he
          go_wp2_with fail
          exact leave_marks HM.out (fun w' hw' => ⟨_, results_tmp rfl _ _ _, rfl, HIe.out.B.trans hw'.bel⟩)
      case done =>
        rintro D ys W hD rfl ⟨hI, hNb⟩ hd
        have HM := Lib.hid (Marks.cons (B := w.heap.size) (ds := []) (Marks.nil _ V) hS.B.size hD hd (Marks.nil _ W))
        rw [numb_length] at hNb
        have cN := blk_one hNb
        have c0 : W.cell? ⟨X, 0, none⟩ = some (.slice ua r.zs.length uc) := (hI.bX.cell 0).trans rfl
        have HIe := Lib.hid hI
        clear hI hNb hS hN hB hd
        go_wp2_with fail
        exact leave_marks HM.out (fun w' hw' => ⟨_, results_tmp rfl _ _ _, rfl, HIe.out.B.trans hw'.bel⟩)

theorem walkZonePlays (size : Int) (a : Option Addr) (len cap : Nat) (f : Nat → OpR) (stop : Int) (w : World) (h0 : (Lit.int .i64 size).wf = true) (h1 : RowOp w a len cap f) (h2 : (Lit.int .i64 stop).wf = true) : Calls Try.prog 3 #[.int .i64 size, .slice a len cap, .int .i64 stop] w fun e w' => e = .returned (.bool true) ∧ Below w.heap.size w w' := by
  by_cases h : size < 1 ∨ 64 < size
  · exact walkZonePlays_n size a len cap stop w h
  · by_cases hl : 80 < len
    · exact walkZonePlays_l size a len cap stop w (by omega) (by omega) hl
    · exact walkZonePlays_t size a len cap f stop w (by omega) (by omega) h1 (by omega)

end Go.Proofs.Ytflcfhjpmajggaa
