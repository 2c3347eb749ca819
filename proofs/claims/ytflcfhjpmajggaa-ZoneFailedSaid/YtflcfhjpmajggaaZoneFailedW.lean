/-
  The walk of ZoneFailed.
-/
import Derived.Test.YtflcfhjpmajggaaZoneI
namespace Go.Proofs.Ytflcfhjpmajggaa
open Go.RowKit
set_option linter.unusedVariables false
set_option linter.unnecessarySimpa false
set_option linter.unusedSimpArgs false

theorem Try.infoOpF : (Try.prog.info? 32).map (·.size) = some 3 := by kernel_rfl
/-- What lies in memory: the document's zone at block X, the zone at block A. -/
structure PfI (w : World) (A X : Nat) (v u : Value) (z : ZoR) (r : RfR) (W : World) : Prop where
  bX : Blk W X 30 (rfA r u)
  z : ZAt 56 3 w.heap.size W A v z
  own : W.ownsRow w.heap.size 3 1 u r.zs.length (ivals r.zs)
  ap : ∀ g, u.ownBlock = some g → v.ownBlock ≠ some g
  B : Below w.heap.size w W
  le : w.heap.size ≤ X
section
variable {w : World} {A X : Nat} {v u v' u' : Value} {z z' : ZoR} {r r' : RfR} {W W' W2 W3 : World}
theorem PfI.below (h : PfI w A X v u z r W) (hb : Below W.heap.size W W') : PfI w A X v u z r W' :=
  ⟨h.bX.below hb h.bX.lt, h.z.below hb, own_below h.own hb, h.ap, bthen h.B hb, h.le⟩
theorem PfI.lo (h : PfI w A X v u z r W) : w.heap.size ≤ W.heap.size := h.B.size
theorem PfI.keepX (h : PfI w A X v u z r W) (k : Kept (ZF A v) W W2) : Blk W2 X 30 (rfA r u) :=
  h.bX.kept k (fun hS => by
    rcases hS with e | e
    · exact Blk.unlike h.bX h.z.blk (by decide) e
    · exact own_unlike h.z.own h.bX (by decide) e.symm)
theorem PfI.next (h : PfI w A X v u z r W) (hz : ZAt 56 3 w.heap.size W2 A v' z') (ho : W2.ownsRow w.heap.size 3 1 u' r'.zs.length (ivals r'.zs)) (hap : ∀ g, u'.ownBlock = some g → v'.ownBlock ≠ some g) (k : Kept (ZF A v) W W2)
    (hX : Blk W3 X 30 (rfA r' u')) (hk : Kept (· = X) W2 W3) : PfI w A X v' u' z' r' W3 := by
  have hX2 := h.keepX k
  have hle := h.le
  refine ⟨hX, hz.kept hk (fun i hi e => ?_), own_kept ho hk (fun g hg e => own_unlike ho hX2 (by decide) (by rw [hg]; exact congrArg some e.symm)), hap, ?_, h.le⟩
  · subst e
    rcases hi with e | e
    · exact Blk.unlike hX2 hz.blk (by decide) e
    · exact own_unlike hz.own hX2 (by decide) e.symm
  · exact bkept (h.z.bel h.B (Nat.le_refl _) k) (Nat.le_refl _) hk (fun i hi e => by omega)
/-- The zone alone goes on. -/
theorem PfI.stay (h : PfI w A X v u z r W) (hz : ZAt 56 3 w.heap.size W2 A v' z') (k : Kept (ZF A v) W W2) (hf : ∀ g, v'.ownBlock = some g → v.ownBlock = some g ∨ W.heap.size ≤ g) : PfI w A X v' u z' r W2 := by
  refine ⟨h.keepX k, hz, own_kept h.own k (fun g hg hS => ?_), fun g hg e => ?_, h.z.bel h.B (Nat.le_refl _) k, h.le⟩
  · rcases hS with rfl | e
    · exact own_unlike h.own h.z.blk (by decide) hg.symm
    · exact h.ap g hg e
  · rcases hf g e with h1 | h1
    · exact h.ap g hg h1
    · have := own_lt h.own hg; omega
theorem PfI.zto (h : PfI w A X v u z r W) (hT : ZTo 56 3 w.heap.size W A v z' W') : ∃ v', PfI w A X v' u z' r W' := by
  obtain ⟨v', h1, h2, h3⟩ := hT
  exact ⟨v', h.stay h1 h2 h3⟩

theorem fa_34 {st : Int} (hok : ZOk z) (h34 : st = 3 ∨ st = 4) : ((faZ z st).failed = 3 ∨ (faZ z st).failed = 4) ∧ (faZ z st).xs = z.xs := by
  unfold faZ
  by_cases e : st = 4 ∨ st = 3 ∧ z.failed ≠ 4
  · rw [if_pos e]; exact ⟨h34, rfl⟩
  · rw [if_neg e]
    refine ⟨.inr ?_, rfl⟩
    by_cases h4 : z.failed = 4
    · exact h4
    · exact absurd (h34.elim (fun h => .inr ⟨h, h4⟩) .inl) e
/-- A zone that failed is as it was, but for what is safe. -/
theorem failed_stays {zs : List Int} {st : Int} (hxs : z.xs = ivals zs) (hok : ZOk z) (hst : z.failed = st) (h34 : st = 3 ∨ st = 4) (k x y : Int) (h6 : k ≠ 6) (h7 : k ≠ 7) (h8 : k ≠ 8) :
    (stZ z zs k x y).xs = z.xs ∧ ZOk (stZ z zs k x y) ∧ (stZ z zs k x y).failed = st := by
  have hr : refI z ≠ 0 := fun e => by have := (refI_zero hok).1 e; omega
  unfold stZ
  rw [if_neg h6, if_neg h7, if_neg h8]
  have hE : apE z ≠ 0 := by unfold apE; rw [if_pos hr]; exact hr
  by_cases h1 : k = 1
  · rw [if_pos h1]; unfold apZ; rw [if_neg hE]; exact ⟨rfl, hok, hst⟩
  rw [if_neg h1]
  by_cases h3 : k = 3
  · rw [if_pos h3]; unfold rsZ; rw [if_neg hr]; exact ⟨rfl, hok, hst⟩
  rw [if_neg h3]
  by_cases h4 : k = 4
  · rw [if_pos h4]; unfold fnZ; rw [if_neg hr]; exact ⟨rfl, hok, hst⟩
  rw [if_neg h4]
  by_cases h5 : k = 5
  · rw [if_pos h5]
    exact ⟨rfl, ⟨hok.size, hok.len, ⟨by show (0 : Int) ≤ z.xs.length; omega, Int.le_refl _⟩, hok.failed, hok.one⟩, hst⟩
  rw [if_neg h5]
  exact ⟨rfl, hok, hst⟩
end

set_option maxRecDepth 100000 in
set_option maxHeartbeats 2000000 in
theorem walkZoneFailed_n (size : Int) (a : Option Addr) (len cap : Nat) (st : Int) (a3 : Option Addr) (len3 cap3 : Nat) (w : World) (h : size < 1 ∨ 64 < size) : Calls Try.prog 5 #[.int .i64 size, .slice a len cap, .int .i64 st, .slice a3 len3 cap3] w fun e w' => e = .returned (.bool true) ∧ Below w.heap.size w w' := by
  go_enter Try.func5, Try.ntmps5
  go_wp2_with fail
  refine (anchor6_any _).mono ?_
  rintro e w1 ⟨rfl, hb⟩
  have HB1 := Lib.hid hb
  clear hb
  go_wp2_with fail
  refine (znewI_no size _ h).mono ?_
  rintro e w2 ⟨rfl, rfl⟩
  go_wp2_with fail
  go_ret
  exact ⟨rfl, HB1.out⟩

set_option maxRecDepth 100000 in
set_option maxHeartbeats 2000000 in
theorem walkZoneFailed_l (size : Int) (a : Option Addr) (len cap : Nat) (st : Int) (a3 : Option Addr) (len3 cap3 : Nat) (w : World) (h1 : 1 ≤ size) (h2 : size ≤ 64) (hl : 80 < len ∨ 80 < len3) : Calls Try.prog 5 #[.int .i64 size, .slice a len cap, .int .i64 st, .slice a3 len3 cap3] w fun e w' => e = .returned (.bool true) ∧ Below w.heap.size w w' := by
  by_cases h : 80 < len
  · have dl : decide ((80 : Int) < (len : Int)) = true := decide_eq_true (by omega)
    go_enter Try.func5, Try.ntmps5
    go_wp2_with fail
    refine (anchor6_any _).mono ?_
    rintro e w1 ⟨rfl, hb⟩
    have HB1 := Lib.hid hb
    clear hb
    go_wp2_with fail
    refine (znewI_ok size _ h1 h2).mono ?_
    rintro e w2 ⟨rfl, rfl⟩

    go_wp2_with fail
    go_ret
    exact ⟨rfl, bthen HB1.out (below_alloc _ _)⟩
  · have dl : decide ((80 : Int) < (len : Int)) = false := decide_eq_false (by omega)
    have dl3 : decide ((80 : Int) < (len3 : Int)) = true := decide_eq_true (by omega)
    go_enter Try.func5, Try.ntmps5
    go_wp2_with fail
    refine (anchor6_any _).mono ?_
    rintro e w1 ⟨rfl, hb⟩
    have HB1 := Lib.hid hb
    clear hb
    go_wp2_with fail
    refine (znewI_ok size _ h1 h2).mono ?_
    rintro e w2 ⟨rfl, rfl⟩

    go_wp2_with fail
    go_ret
    exact ⟨rfl, bthen HB1.out (below_alloc _ _)⟩

set_option maxRecDepth 100000 in
set_option maxHeartbeats 4000000 in
theorem walkZoneFailed_o (size : Int) (a : Option Addr) (len cap : Nat) (f : Nat → OpR) (st : Int) (a3 : Option Addr) (len3 cap3 : Nat) (f3 : Nat → OpR) (w : World) (h1 : 1 ≤ size) (h2 : size ≤ 64) (hops : RowOp w a len cap f) (hops3 : RowOp w a3 len3 cap3 f3) (hl : len ≤ 80) (hl3 : len3 ≤ 80) (d3 : (st != 3) = true) (d4 : (st != 4) = true) : Calls Try.prog 5 #[.int .i64 size, .slice a len cap, .int .i64 st, .slice a3 len3 cap3] w fun e w' => e = .returned (.bool true) ∧ Below w.heap.size w w' := by
  have Hops := Lib.hid hops
  have Hops3 := Lib.hid hops3
  have hcap : len ≤ cap ∧ cap ≤ 9223372036854775807 := by have := hops.max; unfold maxLen at this; exact ⟨hops.le, this⟩
  have hcap3 : len3 ≤ cap3 ∧ cap3 ≤ 9223372036854775807 := by have := hops3.max; unfold maxLen at this; exact ⟨hops3.le, this⟩
  obtain ⟨hc1, hc2⟩ := hcap
  obtain ⟨hc3, hc4⟩ := hcap3
  clear hops hops3
  go_enter Try.func5, Try.ntmps5
  go_wp2_with fail
  refine (anchor6_any _).mono ?_
  rintro e w1 ⟨rfl, hb⟩
  have HB1 := Lib.hid hb
  clear hb
  go_wp2_with fail
  refine (znewI_ok size _ h1 h2).mono ?_
  rintro e w2 ⟨rfl, rfl⟩
  have HZ2 := Lib.hid (zat_new (T := 56) (E := 3) (lo := w.heap.size) w1 size HB1.out.size)
  have HB2 := Lib.hid (bthen HB1.out (below_alloc w1 (Obj.cells (zoA (zo0 size) (.slice none 0 0)) 56)))
  clear HB1
  have dl : decide ((80 : Int) < (len : Int)) = false := decide_eq_false (by omega)
  have dl3 : decide ((80 : Int) < (len3 : Int)) = false := decide_eq_false (by omega)
  go_upto_region 6 with fail
  clear dl dl3
  generalize w1.alloc (Obj.cells (zoA (zo0 size) (.slice none 0 0)) 56) = w2 at *
  generalize w1.heap.size = A at *
  go_upto_region 7 with (first | (refine wpl_build (by rfl) _ _ rfl (.agg (rfA (rf0 size) (.slice none 0 0))) (fun w => by kernel_rfl) ?_; go_frame) | (refine wpl_store rfl _ _ rfl (w2.heap.size) (rfA (rf0 size) (.slice none 0 0)) rfl rfl _ _ (Blk.new w2 30 _) Try.infoRf rfl (rfA_one _ _ _ _) ?_; intro w3 hSy hKy; have hb3 := (below_alloc w2 (Obj.cells #[.slice none 0 0, .int .i64 0, .int .i64 0, .int .i64 0, .bool false] 30)).trans (hKy.below (B := w2.heap.size) (by simp) (fun k hk e => by omega)); have HI := Lib.hid (show PfI w A w2.heap.size (.slice none 0 0) (.slice none 0 0) (zo0 size) (rf0 size) w3 from ⟨hSy, HZ2.out.below hb3, own_nil _ _ _, fun g h => by simp [Value.ownBlock] at h, bthen HB2.out hb3, HB2.out.size⟩); clear hSy hKy hb3; go_frame))
  clear HZ2 HB2
  generalize w2.heap.size = X at *
  have Hrel := Lib.hid (Rel.start (size := size) ⟨h1, h2⟩)
  have Hok := Lib.hid (zo0_ok (size := size) ⟨h1, h2⟩)
  go_wp2_with fail
  go_loopw [47] (fun i wr => ∃ (j : Nat) (v u : Value) (z : ZoR) (r : RfR), j ≤ len ∧ i = .int .i64 j ∧ PfI w A X v u z r wr ∧ Rel z r ∧ ZOk z) (fun i _ => len - (intOf i).toNat)
  case atStart => exact ⟨0, _, _, _, _, Nat.zero_le _, rfl, HI.out, Hrel.out, Hok.out⟩
  case round =>
    obtain ⟨j, v, u, z, r, hj, rfl, hI, hR, hO⟩ := hrel
    obtain ⟨ua, uc, rfl⟩ := own_slice hI.own
    have Hrel := Lib.hid hR
    have Hok := Lib.hid hO
    have HIr := Lib.hid hI
    clear hI HI hR hO
    by_cases hlt : j < len
    · obtain ⟨b, off, rfl, hat⟩ := (Hops.out.below HIr.out.B).cells (by omega)
      obtain ⟨k0, k1, k2, kw⟩ := hat j hlt
      clear hat
      generalize f j = o at *
      go_upto_region 10 with fail
      have HI1 := Lib.hid (HIr.out.below (below_alloc wr (Obj.cells #[.int .i64 o.k, .int .i64 o.x, .int .i64 o.y] 32)))
      have HO1 := Lib.hid (Blk.new wr 32 #[.int .i64 o.k, .int .i64 o.x, .int .i64 o.y])
      clear k0 k1 k2 kw HIr
      generalize wr.alloc (Obj.cells #[.int .i64 o.k, .int .i64 o.x, .int .i64 o.y] 32) = W1 at *
      generalize wr.heap.size = ob at *
      go_wp2_with (first | (refine wpl_load rfl _ rfl X rfl _ _ _ (HI1.out.bX) Try.underlying30 rfl Try.infoRf ?_; go_frame) | (refine wpl_load rfl _ rfl ob rfl _ _ _ (HO1.out) Try.underlying32 rfl Try.infoOpF ?_; go_frame))
      refine (wstep o.k o.x o.y Hrel.out.xs HI1.out.z Hok.out HI1.out.own (Hrel.out.rok Hok.out) HI1.out.ap HI1.out.lo).mono ?_
      rintro e W2 ⟨v', u', rfl, hz', ho', hap', hk', hf'⟩
      obtain ⟨s1, s2, s3⟩ := Hrel.out.step Hok.out o.k o.x o.y
      rw [s1]
      obtain ⟨ua', uc', rfl⟩ := own_slice ho'
      have HX2 := Lib.hid (HI1.out.keepX hk')
      have HN := Lib.hid (fun W3 (hX : Blk W3 X 30 (rfA (stR r o.k o.x o.y) (.slice ua' (stR r o.k o.x o.y).zs.length uc'))) (hk : Kept (· = X) W2 W3) => HI1.out.next hz' ho' hap' hk' hX hk)
      have Hrel' := Lib.hid s2
      have Hok' := Lib.hid s3
      clear hz' ho' hap' hk' hf' s1 s2 s3 Hrel Hok
      go_wp2_with (first | (refine wpl_store rfl _ _ rfl X (rfA (stR r o.k o.x o.y) (.slice ua' (stR r o.k o.x o.y).zs.length uc')) rfl rfl _ _ HX2.out Try.infoRf rfl (rfA_one _ _ _ _) ?_; intro W3 hSy hKy; have HI3 := Lib.hid (HN.out W3 hSy hKy); clear hSy hKy; go_frame))
      go_roundw
      case rel => exact ⟨j + 1, _, _, _, _, by omega, by go_num, HI3.out, Hrel'.out, Hok'.out⟩
      case measure => simp [intOf]; omega
    · obtain rfl : j = len := by omega
      go_wp2_with fail
      go_ret
      exact ⟨rfl, HIr.out.B⟩

set_option maxRecDepth 100000 in
set_option maxHeartbeats 4000000 in
theorem walkZoneFailed_3 (size : Int) (a : Option Addr) (len cap : Nat) (f : Nat → OpR) (a3 : Option Addr) (len3 cap3 : Nat) (f3 : Nat → OpR) (w : World) (h1 : 1 ≤ size) (h2 : size ≤ 64) (hops : RowOp w a len cap f) (hops3 : RowOp w a3 len3 cap3 f3) (hl : len ≤ 80) (hl3 : len3 ≤ 80) : Calls Try.prog 5 #[.int .i64 size, .slice a len cap, .int .i64 3, .slice a3 len3 cap3] w fun e w' => e = .returned (.bool true) ∧ Below w.heap.size w w' := by
  have Hops := Lib.hid hops
  have Hops3 := Lib.hid hops3
  have hcap : len ≤ cap ∧ cap ≤ 9223372036854775807 := by have := hops.max; unfold maxLen at this; exact ⟨hops.le, this⟩
  have hcap3 : len3 ≤ cap3 ∧ cap3 ≤ 9223372036854775807 := by have := hops3.max; unfold maxLen at this; exact ⟨hops3.le, this⟩
  obtain ⟨hc1, hc2⟩ := hcap
  obtain ⟨hc3, hc4⟩ := hcap3
  clear hops hops3
  go_enter Try.func5, Try.ntmps5
  go_wp2_with fail
  refine (anchor6_any _).mono ?_
  rintro e w1 ⟨rfl, hb⟩
  have HB1 := Lib.hid hb
  clear hb
  go_wp2_with fail
  refine (znewI_ok size _ h1 h2).mono ?_
  rintro e w2 ⟨rfl, rfl⟩
  have HZ2 := Lib.hid (zat_new (T := 56) (E := 3) (lo := w.heap.size) w1 size HB1.out.size)
  have HB2 := Lib.hid (bthen HB1.out (below_alloc w1 (Obj.cells (zoA (zo0 size) (.slice none 0 0)) 56)))
  clear HB1
  have dl : decide ((80 : Int) < (len : Int)) = false := decide_eq_false (by omega)
  have dl3 : decide ((80 : Int) < (len3 : Int)) = false := decide_eq_false (by omega)
  go_upto_region 6 with fail
  clear dl dl3
  generalize w1.alloc (Obj.cells (zoA (zo0 size) (.slice none 0 0)) 56) = w2 at *
  generalize w1.heap.size = A at *
  go_upto_region 7 with (first | (refine wpl_build (by rfl) _ _ rfl (.agg (rfA (rf0 size) (.slice none 0 0))) (fun w => by kernel_rfl) ?_; go_frame) | (refine wpl_store rfl _ _ rfl (w2.heap.size) (rfA (rf0 size) (.slice none 0 0)) rfl rfl _ _ (Blk.new w2 30 _) Try.infoRf rfl (rfA_one _ _ _ _) ?_; intro w3 hSy hKy; have hb3 := (below_alloc w2 (Obj.cells #[.slice none 0 0, .int .i64 0, .int .i64 0, .int .i64 0, .bool false] 30)).trans (hKy.below (B := w2.heap.size) (by simp) (fun k hk e => by omega)); have HI := Lib.hid (show PfI w A w2.heap.size (.slice none 0 0) (.slice none 0 0) (zo0 size) (rf0 size) w3 from ⟨hSy, HZ2.out.below hb3, own_nil _ _ _, fun g h => by simp [Value.ownBlock] at h, bthen HB2.out hb3, HB2.out.size⟩); clear hSy hKy hb3; go_frame))
  clear HZ2 HB2
  generalize w2.heap.size = X at *
  have Hrel := Lib.hid (Rel.start (size := size) ⟨h1, h2⟩)
  have Hok := Lib.hid (zo0_ok (size := size) ⟨h1, h2⟩)
  go_wp2_with fail
  go_loopw [47] (fun i wr => ∃ (j : Nat) (v u : Value) (z : ZoR) (r : RfR), j ≤ len ∧ i = .int .i64 j ∧ PfI w A X v u z r wr ∧ Rel z r ∧ ZOk z) (fun i _ => len - (intOf i).toNat)
  case atStart => exact ⟨0, _, _, _, _, Nat.zero_le _, rfl, HI.out, Hrel.out, Hok.out⟩
  case round =>
    obtain ⟨j, v, u, z, r, hj, rfl, hI, hR, hO⟩ := hrel
    obtain ⟨ua, uc, rfl⟩ := own_slice hI.own
    have Hrel := Lib.hid hR
    have Hok := Lib.hid hO
    have HIr := Lib.hid hI
    clear hI HI hR hO
    by_cases hlt : j < len
    · obtain ⟨b, off, rfl, hat⟩ := (Hops.out.below HIr.out.B).cells (by omega)
      obtain ⟨k0, k1, k2, kw⟩ := hat j hlt
      clear hat
      generalize f j = o at *
      go_upto_region 10 with fail
      have HI1 := Lib.hid (HIr.out.below (below_alloc wr (Obj.cells #[.int .i64 o.k, .int .i64 o.x, .int .i64 o.y] 32)))
      have HO1 := Lib.hid (Blk.new wr 32 #[.int .i64 o.k, .int .i64 o.x, .int .i64 o.y])
      clear k0 k1 k2 kw HIr
      generalize wr.alloc (Obj.cells #[.int .i64 o.k, .int .i64 o.x, .int .i64 o.y] 32) = W1 at *
      generalize wr.heap.size = ob at *
      go_wp2_with (first | (refine wpl_load rfl _ rfl X rfl _ _ _ (HI1.out.bX) Try.underlying30 rfl Try.infoRf ?_; go_frame) | (refine wpl_load rfl _ rfl ob rfl _ _ _ (HO1.out) Try.underlying32 rfl Try.infoOpF ?_; go_frame))
      refine (wstep o.k o.x o.y Hrel.out.xs HI1.out.z Hok.out HI1.out.own (Hrel.out.rok Hok.out) HI1.out.ap HI1.out.lo).mono ?_
      rintro e W2 ⟨v', u', rfl, hz', ho', hap', hk', hf'⟩
      obtain ⟨s1, s2, s3⟩ := Hrel.out.step Hok.out o.k o.x o.y
      rw [s1]
      obtain ⟨ua', uc', rfl⟩ := own_slice ho'
      have HX2 := Lib.hid (HI1.out.keepX hk')
      have HN := Lib.hid (fun W3 (hX : Blk W3 X 30 (rfA (stR r o.k o.x o.y) (.slice ua' (stR r o.k o.x o.y).zs.length uc'))) (hk : Kept (· = X) W2 W3) => HI1.out.next hz' ho' hap' hk' hX hk)
      have Hrel' := Lib.hid s2
      have Hok' := Lib.hid s3
      clear hz' ho' hap' hk' hf' s1 s2 s3 Hrel Hok
      go_wp2_with (first | (refine wpl_store rfl _ _ rfl X (rfA (stR r o.k o.x o.y) (.slice ua' (stR r o.k o.x o.y).zs.length uc')) rfl rfl _ _ HX2.out Try.infoRf rfl (rfA_one _ _ _ _) ?_; intro W3 hSy hKy; have HI3 := Lib.hid (HN.out W3 hSy hKy); clear hSy hKy; go_frame))
      go_roundw
      case rel => exact ⟨j + 1, _, _, _, _, by omega, by go_num, HI3.out, Hrel'.out, Hok'.out⟩
      case measure => simp [intOf]; omega
    · obtain rfl : j = len := by omega
      have HOk1 := Lib.hid (Hrel.out.fail Hok.out 3).2
      have Hrok := Lib.hid (Hrel.out.rok Hok.out)
      obtain ⟨hq, hx1⟩ := fa_34 (st := 3) Hok.out (.inl rfl)
      have Hxs1 := Lib.hid (hx1.trans Hrel.out.xs)
      have HF := Lib.hid (zfa 3 HIr.out.z)
      generalize hz1 : faZ z 3 = z1 at *
      generalize hqq : z1.failed = q at *
      have Hqq := Lib.hid hqq
      have Hq := Lib.hid hq
      clear hq hx1 hz1 hqq
      go_wp2_with fail
      refine HF.out.mono ?_
      rintro e W1 ⟨rfl, hT⟩
      obtain ⟨v1, hi1⟩ := HIr.out.zto hT
      have HI1 := Lib.hid hi1
      clear hT hi1 HF HIr
      go_wp2_with fail
      refine (zstI HI1.out.z).mono ?_
      rintro e W2 ⟨rfl, hb⟩
      rw [show stI z1 = q by rw [stI_yes (by rw [Hqq.out]; have := Hq.out; omega)]; exact Hqq.out]
      have HI2 := Lib.hid (HI1.out.below hb)
      clear hb
      go_wp2_with fail
      refine (zlenI HI2.out.z).mono ?_
      rintro e W3 ⟨rfl, rfl⟩
      have hl64 : (z1.xs.length : Int) ≤ 64 := Int.le_trans HOk1.out.len HOk1.out.size.2
      clear Hrel Hok HI1
      go_wp2_with fail
      clear Hops
      go_loopw [74] (fun i wr => ∃ (j : Nat) (v : Value) (z' : ZoR), j ≤ len3 ∧ i = .int .i64 j ∧ PfI w A X v (.slice ua r.zs.length uc) z' r wr ∧ ZOk z' ∧ z'.failed = q ∧ z'.xs = z1.xs) (fun i _ => len3 - (intOf i).toNat)
      case atStart => exact ⟨0, _, _, Nat.zero_le _, rfl, HI2.out, HOk1.out, Hqq.out, rfl⟩
      case round =>
        obtain ⟨j, v, z', hj3, rfl, hI, hO, hfq, hx⟩ := hrel
        have HIr := Lib.hid hI
        have HOk := Lib.hid hO
        have Hfq := Lib.hid hfq
        have Hx1 := Lib.hid hx
        have Hxs := Lib.hid (hx.trans Hxs1.out)
        clear hI hO hfq hx HI2 HOk1 Hqq
        by_cases hlt : j < len3
        · obtain ⟨b, off, rfl, hat⟩ := (Hops3.out.below HIr.out.B).cells (by omega)
          obtain ⟨k0, k1, k2, kw⟩ := hat j hlt
          clear hat
          generalize f3 j = o at *
          go_upto_region 20 with fail
          have HI1 := Lib.hid (HIr.out.below (below_alloc wr (Obj.cells #[.int .i64 o.k, .int .i64 o.x, .int .i64 o.y] 32)))
          have HO1 := Lib.hid (Blk.new wr 32 #[.int .i64 o.k, .int .i64 o.x, .int .i64 o.y])
          clear k0 k1 k2 kw HIr
          generalize wr.alloc (Obj.cells #[.int .i64 o.k, .int .i64 o.x, .int .i64 o.y] 32) = W1 at *
          generalize wr.heap.size = ob at *
          have c0 : W1.cell? ⟨ob, 0, none⟩ = some (.int .i64 o.k) := (HO1.out.cell 0).trans rfl
          have c1 : W1.cell? ⟨ob, 1, none⟩ = some (.int .i64 o.x) := (HO1.out.cell 1).trans rfl
          by_cases h6 : o.k = 6
          · have d6 : (o.k == 6) = true := by simp [h6]
            clear h6
            go_wp2_with fail
            go_roundw
            case rel => exact ⟨j + 1, _, _, by omega, by go_num, HI1.out, HOk.out, Hfq.out, Hx1.out⟩
            case measure => simp [intOf]; omega
          have H6 := Lib.hid h6
          have d6 : (o.k == 6) = false := by simpa using h6
          clear h6
          by_cases h7 : o.k = 7
          · have d7 : (o.k == 7) = true := by simp [h7]
            clear h7
            go_wp2_with fail
            go_roundw
            case rel => exact ⟨j + 1, _, _, by omega, by go_num, HI1.out, HOk.out, Hfq.out, Hx1.out⟩
            case measure => simp [intOf]; omega
          have H7 := Lib.hid h7
          have d7 : (o.k == 7) = false := by simpa using h7
          clear h7
          by_cases h8 : o.k = 8
          · have d8 : (o.k == 8) = true := by simp [h8]
            clear h8
            go_wp2_with fail
            go_roundw
            case rel => exact ⟨j + 1, _, _, by omega, by go_num, HI1.out, HOk.out, Hfq.out, Hx1.out⟩
            case measure => simp [intOf]; omega
          have H8 := Lib.hid h8
          have d8 : (o.k == 8) = false := by simpa using h8
          clear h8
          go_wp2_with fail
          refine (zrdI o.x HI1.out.z HOk.out).mono ?_
          rintro e W2 ⟨rfl, rfl⟩
          rw [rdV_int Hxs.out]
          have hln : z'.xs.length = z1.xs.length := congrArg List.length Hx1.out
          rcases Hq.out with h3 | h4
          · have hE : rdE z' o.x = if holB z' o.x = true then 0 else 31 := by unfold rdE; rw [if_neg (by rw [Hfq.out, h3]; decide)]
            generalize rdN z' r.zs o.x = RN at *
            have q4 : (q == 4) = false := by rw [h3]; rfl
            have q3 : (q == 3) = true := by rw [h3]; rfl
            clear h3
            by_cases x0 : 0 ≤ o.x
            · by_cases x1 : o.x < (z1.xs.length : Int)
              · have hh : holB z' o.x = true := by unfold holB; simp [x0, hln, x1]
                rw [hE, if_pos hh]
                clear hE hh hln
                go_wp2_with (first | (refine wpl_load rfl _ rfl X rfl _ _ _ (HI1.out.bX) Try.underlying30 rfl Try.infoRf ?_; go_frame) | (refine wpl_load rfl _ rfl ob rfl _ _ _ (HO1.out) Try.underlying32 rfl Try.infoOpF ?_; go_frame))
                refine (wstep o.k o.x o.y Hxs.out HI1.out.z HOk.out HI1.out.own Hrok.out HI1.out.ap HI1.out.lo).mono ?_
                rintro e W2 ⟨v', u', rfl, hz', ho', hap', hk', hf'⟩
                obtain ⟨s1, s2, s3⟩ := failed_stays Hxs.out HOk.out Hfq.out Hq.out o.k o.x o.y H6.out H7.out H8.out
                have hi2 := HI1.out.stay hz' hk' hf'
                generalize stZ z' r.zs o.k o.x o.y = z2 at *
                have HI2 := Lib.hid hi2
                have S1 := Lib.hid (s1.trans Hx1.out)
                have S2 := Lib.hid s2
                have S3 := Lib.hid s3
                clear hz' ho' hap' hk' hf' s1 s2 s3 hi2
                go_wp2_with fail
                refine (zstI HI2.out.z).mono ?_
                rintro e W3 ⟨rfl, hb⟩
                rw [show stI z2 = q by rw [stI_yes (by rw [S3.out]; have := Hq.out; omega)]; exact S3.out]
                have HI3 := Lib.hid (HI2.out.below hb)
                clear hb
                go_wp2_with fail
                refine (zlenI HI3.out.z).mono ?_
                rintro e W4 ⟨rfl, rfl⟩
                rw [show z2.xs.length = z1.xs.length from congrArg List.length S1.out]
                go_wp2_with fail
                go_roundw
                case rel => exact ⟨j + 1, _, _, by omega, by go_num, HI3.out, S2.out, S3.out, S1.out⟩
                case measure => simp [intOf]; omega
              · have hh : ¬ holB z' o.x = true := by unfold holB; simp [hln, x1]
                rw [hE, if_neg hh]
                clear hE hh hln
                go_wp2_with (first | (refine wpl_load rfl _ rfl X rfl _ _ _ (HI1.out.bX) Try.underlying30 rfl Try.infoRf ?_; go_frame) | (refine wpl_load rfl _ rfl ob rfl _ _ _ (HO1.out) Try.underlying32 rfl Try.infoOpF ?_; go_frame))
                refine (wstep o.k o.x o.y Hxs.out HI1.out.z HOk.out HI1.out.own Hrok.out HI1.out.ap HI1.out.lo).mono ?_
                rintro e W2 ⟨v', u', rfl, hz', ho', hap', hk', hf'⟩
                obtain ⟨s1, s2, s3⟩ := failed_stays Hxs.out HOk.out Hfq.out Hq.out o.k o.x o.y H6.out H7.out H8.out
                have hi2 := HI1.out.stay hz' hk' hf'
                generalize stZ z' r.zs o.k o.x o.y = z2 at *
                have HI2 := Lib.hid hi2
                have S1 := Lib.hid (s1.trans Hx1.out)
                have S2 := Lib.hid s2
                have S3 := Lib.hid s3
                clear hz' ho' hap' hk' hf' s1 s2 s3 hi2
                go_wp2_with fail
                refine (zstI HI2.out.z).mono ?_
                rintro e W3 ⟨rfl, hb⟩
                rw [show stI z2 = q by rw [stI_yes (by rw [S3.out]; have := Hq.out; omega)]; exact S3.out]
                have HI3 := Lib.hid (HI2.out.below hb)
                clear hb
                go_wp2_with fail
                refine (zlenI HI3.out.z).mono ?_
                rintro e W4 ⟨rfl, rfl⟩
                rw [show z2.xs.length = z1.xs.length from congrArg List.length S1.out]
                go_wp2_with fail
                go_roundw
                case rel => exact ⟨j + 1, _, _, by omega, by go_num, HI3.out, S2.out, S3.out, S1.out⟩
                case measure => simp [intOf]; omega
            · have hh : ¬ holB z' o.x = true := by unfold holB; simp [x0]
              rw [hE, if_neg hh]
              clear hE hh hln
              go_wp2_with (first | (refine wpl_load rfl _ rfl X rfl _ _ _ (HI1.out.bX) Try.underlying30 rfl Try.infoRf ?_; go_frame) | (refine wpl_load rfl _ rfl ob rfl _ _ _ (HO1.out) Try.underlying32 rfl Try.infoOpF ?_; go_frame))
              refine (wstep o.k o.x o.y Hxs.out HI1.out.z HOk.out HI1.out.own Hrok.out HI1.out.ap HI1.out.lo).mono ?_
              rintro e W2 ⟨v', u', rfl, hz', ho', hap', hk', hf'⟩
              obtain ⟨s1, s2, s3⟩ := failed_stays Hxs.out HOk.out Hfq.out Hq.out o.k o.x o.y H6.out H7.out H8.out
              have hi2 := HI1.out.stay hz' hk' hf'
              generalize stZ z' r.zs o.k o.x o.y = z2 at *
              have HI2 := Lib.hid hi2
              have S1 := Lib.hid (s1.trans Hx1.out)
              have S2 := Lib.hid s2
              have S3 := Lib.hid s3
              clear hz' ho' hap' hk' hf' s1 s2 s3 hi2
              go_wp2_with fail
              refine (zstI HI2.out.z).mono ?_
              rintro e W3 ⟨rfl, hb⟩
              rw [show stI z2 = q by rw [stI_yes (by rw [S3.out]; have := Hq.out; omega)]; exact S3.out]
              have HI3 := Lib.hid (HI2.out.below hb)
              clear hb
              go_wp2_with fail
              refine (zlenI HI3.out.z).mono ?_
              rintro e W4 ⟨rfl, rfl⟩
              rw [show z2.xs.length = z1.xs.length from congrArg List.length S1.out]
              go_wp2_with fail
              go_roundw
              case rel => exact ⟨j + 1, _, _, by omega, by go_num, HI3.out, S2.out, S3.out, S1.out⟩
              case measure => simp [intOf]; omega
          · have hE : rdE z' o.x = 32 := by unfold rdE; rw [if_pos (by rw [Hfq.out, h4])]
            have hN : rdN z' r.zs o.x = 0 := by unfold rdN; rw [hE]; rfl
            rw [hE, hN]
            have q4 : (q == 4) = true := by rw [h4]; rfl
            have q3 : (q == 3) = false := by rw [h4]; rfl
            clear hE hN hln h4
            go_wp2_with (first | (refine wpl_load rfl _ rfl X rfl _ _ _ (HI1.out.bX) Try.underlying30 rfl Try.infoRf ?_; go_frame) | (refine wpl_load rfl _ rfl ob rfl _ _ _ (HO1.out) Try.underlying32 rfl Try.infoOpF ?_; go_frame))
            refine (wstep o.k o.x o.y Hxs.out HI1.out.z HOk.out HI1.out.own Hrok.out HI1.out.ap HI1.out.lo).mono ?_
            rintro e W2 ⟨v', u', rfl, hz', ho', hap', hk', hf'⟩
            obtain ⟨s1, s2, s3⟩ := failed_stays Hxs.out HOk.out Hfq.out Hq.out o.k o.x o.y H6.out H7.out H8.out
            have hi2 := HI1.out.stay hz' hk' hf'
            generalize stZ z' r.zs o.k o.x o.y = z2 at *
            have HI2 := Lib.hid hi2
            have S1 := Lib.hid (s1.trans Hx1.out)
            have S2 := Lib.hid s2
            have S3 := Lib.hid s3
            clear hz' ho' hap' hk' hf' s1 s2 s3 hi2
            go_wp2_with fail
            refine (zstI HI2.out.z).mono ?_
            rintro e W3 ⟨rfl, hb⟩
            rw [show stI z2 = q by rw [stI_yes (by rw [S3.out]; have := Hq.out; omega)]; exact S3.out]
            have HI3 := Lib.hid (HI2.out.below hb)
            clear hb
            go_wp2_with fail
            refine (zlenI HI3.out.z).mono ?_
            rintro e W4 ⟨rfl, rfl⟩
            rw [show z2.xs.length = z1.xs.length from congrArg List.length S1.out]
            go_wp2_with fail
            go_roundw
            case rel => exact ⟨j + 1, _, _, by omega, by go_num, HI3.out, S2.out, S3.out, S1.out⟩
            case measure => simp [intOf]; omega
        · obtain rfl : j = len3 := by omega
          go_wp2_with fail
          go_ret
          exact ⟨rfl, HIr.out.B⟩

set_option maxRecDepth 100000 in
set_option maxHeartbeats 4000000 in
theorem walkZoneFailed_4 (size : Int) (a : Option Addr) (len cap : Nat) (f : Nat → OpR) (a3 : Option Addr) (len3 cap3 : Nat) (f3 : Nat → OpR) (w : World) (h1 : 1 ≤ size) (h2 : size ≤ 64) (hops : RowOp w a len cap f) (hops3 : RowOp w a3 len3 cap3 f3) (hl : len ≤ 80) (hl3 : len3 ≤ 80) : Calls Try.prog 5 #[.int .i64 size, .slice a len cap, .int .i64 4, .slice a3 len3 cap3] w fun e w' => e = .returned (.bool true) ∧ Below w.heap.size w w' := by
  have Hops := Lib.hid hops
  have Hops3 := Lib.hid hops3
  have hcap : len ≤ cap ∧ cap ≤ 9223372036854775807 := by have := hops.max; unfold maxLen at this; exact ⟨hops.le, this⟩
  have hcap3 : len3 ≤ cap3 ∧ cap3 ≤ 9223372036854775807 := by have := hops3.max; unfold maxLen at this; exact ⟨hops3.le, this⟩
  obtain ⟨hc1, hc2⟩ := hcap
  obtain ⟨hc3, hc4⟩ := hcap3
  clear hops hops3
  go_enter Try.func5, Try.ntmps5
  go_wp2_with fail
  refine (anchor6_any _).mono ?_
  rintro e w1 ⟨rfl, hb⟩
  have HB1 := Lib.hid hb
  clear hb
  go_wp2_with fail
  refine (znewI_ok size _ h1 h2).mono ?_
  rintro e w2 ⟨rfl, rfl⟩
  have HZ2 := Lib.hid (zat_new (T := 56) (E := 3) (lo := w.heap.size) w1 size HB1.out.size)
  have HB2 := Lib.hid (bthen HB1.out (below_alloc w1 (Obj.cells (zoA (zo0 size) (.slice none 0 0)) 56)))
  clear HB1
  have dl : decide ((80 : Int) < (len : Int)) = false := decide_eq_false (by omega)
  have dl3 : decide ((80 : Int) < (len3 : Int)) = false := decide_eq_false (by omega)
  go_upto_region 6 with fail
  clear dl dl3
  generalize w1.alloc (Obj.cells (zoA (zo0 size) (.slice none 0 0)) 56) = w2 at *
  generalize w1.heap.size = A at *
  go_upto_region 7 with (first | (refine wpl_build (by rfl) _ _ rfl (.agg (rfA (rf0 size) (.slice none 0 0))) (fun w => by kernel_rfl) ?_; go_frame) | (refine wpl_store rfl _ _ rfl (w2.heap.size) (rfA (rf0 size) (.slice none 0 0)) rfl rfl _ _ (Blk.new w2 30 _) Try.infoRf rfl (rfA_one _ _ _ _) ?_; intro w3 hSy hKy; have hb3 := (below_alloc w2 (Obj.cells #[.slice none 0 0, .int .i64 0, .int .i64 0, .int .i64 0, .bool false] 30)).trans (hKy.below (B := w2.heap.size) (by simp) (fun k hk e => by omega)); have HI := Lib.hid (show PfI w A w2.heap.size (.slice none 0 0) (.slice none 0 0) (zo0 size) (rf0 size) w3 from ⟨hSy, HZ2.out.below hb3, own_nil _ _ _, fun g h => by simp [Value.ownBlock] at h, bthen HB2.out hb3, HB2.out.size⟩); clear hSy hKy hb3; go_frame))
  clear HZ2 HB2
  generalize w2.heap.size = X at *
  have Hrel := Lib.hid (Rel.start (size := size) ⟨h1, h2⟩)
  have Hok := Lib.hid (zo0_ok (size := size) ⟨h1, h2⟩)
  go_wp2_with fail
  go_loopw [47] (fun i wr => ∃ (j : Nat) (v u : Value) (z : ZoR) (r : RfR), j ≤ len ∧ i = .int .i64 j ∧ PfI w A X v u z r wr ∧ Rel z r ∧ ZOk z) (fun i _ => len - (intOf i).toNat)
  case atStart => exact ⟨0, _, _, _, _, Nat.zero_le _, rfl, HI.out, Hrel.out, Hok.out⟩
  case round =>
    obtain ⟨j, v, u, z, r, hj, rfl, hI, hR, hO⟩ := hrel
    obtain ⟨ua, uc, rfl⟩ := own_slice hI.own
    have Hrel := Lib.hid hR
    have Hok := Lib.hid hO
    have HIr := Lib.hid hI
    clear hI HI hR hO
    by_cases hlt : j < len
    · obtain ⟨b, off, rfl, hat⟩ := (Hops.out.below HIr.out.B).cells (by omega)
      obtain ⟨k0, k1, k2, kw⟩ := hat j hlt
      clear hat
      generalize f j = o at *
      go_upto_region 10 with fail
      have HI1 := Lib.hid (HIr.out.below (below_alloc wr (Obj.cells #[.int .i64 o.k, .int .i64 o.x, .int .i64 o.y] 32)))
      have HO1 := Lib.hid (Blk.new wr 32 #[.int .i64 o.k, .int .i64 o.x, .int .i64 o.y])
      clear k0 k1 k2 kw HIr
      generalize wr.alloc (Obj.cells #[.int .i64 o.k, .int .i64 o.x, .int .i64 o.y] 32) = W1 at *
      generalize wr.heap.size = ob at *
      go_wp2_with (first | (refine wpl_load rfl _ rfl X rfl _ _ _ (HI1.out.bX) Try.underlying30 rfl Try.infoRf ?_; go_frame) | (refine wpl_load rfl _ rfl ob rfl _ _ _ (HO1.out) Try.underlying32 rfl Try.infoOpF ?_; go_frame))
      refine (wstep o.k o.x o.y Hrel.out.xs HI1.out.z Hok.out HI1.out.own (Hrel.out.rok Hok.out) HI1.out.ap HI1.out.lo).mono ?_
      rintro e W2 ⟨v', u', rfl, hz', ho', hap', hk', hf'⟩
      obtain ⟨s1, s2, s3⟩ := Hrel.out.step Hok.out o.k o.x o.y
      rw [s1]
      obtain ⟨ua', uc', rfl⟩ := own_slice ho'
      have HX2 := Lib.hid (HI1.out.keepX hk')
      have HN := Lib.hid (fun W3 (hX : Blk W3 X 30 (rfA (stR r o.k o.x o.y) (.slice ua' (stR r o.k o.x o.y).zs.length uc'))) (hk : Kept (· = X) W2 W3) => HI1.out.next hz' ho' hap' hk' hX hk)
      have Hrel' := Lib.hid s2
      have Hok' := Lib.hid s3
      clear hz' ho' hap' hk' hf' s1 s2 s3 Hrel Hok
      go_wp2_with (first | (refine wpl_store rfl _ _ rfl X (rfA (stR r o.k o.x o.y) (.slice ua' (stR r o.k o.x o.y).zs.length uc')) rfl rfl _ _ HX2.out Try.infoRf rfl (rfA_one _ _ _ _) ?_; intro W3 hSy hKy; have HI3 := Lib.hid (HN.out W3 hSy hKy); clear hSy hKy; go_frame))
      go_roundw
      case rel => exact ⟨j + 1, _, _, _, _, by omega, by go_num, HI3.out, Hrel'.out, Hok'.out⟩
      case measure => simp [intOf]; omega
    · obtain rfl : j = len := by omega
      have HOk1 := Lib.hid (Hrel.out.fail Hok.out 4).2
      have Hrok := Lib.hid (Hrel.out.rok Hok.out)
      obtain ⟨hq, hx1⟩ := fa_34 (st := 4) Hok.out (.inr rfl)
      have Hxs1 := Lib.hid (hx1.trans Hrel.out.xs)
      have HF := Lib.hid (zfa 4 HIr.out.z)
      generalize hz1 : faZ z 4 = z1 at *
      generalize hqq : z1.failed = q at *
      have Hqq := Lib.hid hqq
      have Hq := Lib.hid hq
      clear hq hx1 hz1 hqq
      go_wp2_with fail
      refine HF.out.mono ?_
      rintro e W1 ⟨rfl, hT⟩
      obtain ⟨v1, hi1⟩ := HIr.out.zto hT
      have HI1 := Lib.hid hi1
      clear hT hi1 HF HIr
      go_wp2_with fail
      refine (zstI HI1.out.z).mono ?_
      rintro e W2 ⟨rfl, hb⟩
      rw [show stI z1 = q by rw [stI_yes (by rw [Hqq.out]; have := Hq.out; omega)]; exact Hqq.out]
      have HI2 := Lib.hid (HI1.out.below hb)
      clear hb
      go_wp2_with fail
      refine (zlenI HI2.out.z).mono ?_
      rintro e W3 ⟨rfl, rfl⟩
      have hl64 : (z1.xs.length : Int) ≤ 64 := Int.le_trans HOk1.out.len HOk1.out.size.2
      clear Hrel Hok HI1
      go_wp2_with fail
      clear Hops
      go_loopw [74] (fun i wr => ∃ (j : Nat) (v : Value) (z' : ZoR), j ≤ len3 ∧ i = .int .i64 j ∧ PfI w A X v (.slice ua r.zs.length uc) z' r wr ∧ ZOk z' ∧ z'.failed = q ∧ z'.xs = z1.xs) (fun i _ => len3 - (intOf i).toNat)
      case atStart => exact ⟨0, _, _, Nat.zero_le _, rfl, HI2.out, HOk1.out, Hqq.out, rfl⟩
      case round =>
        obtain ⟨j, v, z', hj3, rfl, hI, hO, hfq, hx⟩ := hrel
        have HIr := Lib.hid hI
        have HOk := Lib.hid hO
        have Hfq := Lib.hid hfq
        have Hx1 := Lib.hid hx
        have Hxs := Lib.hid (hx.trans Hxs1.out)
        clear hI hO hfq hx HI2 HOk1 Hqq
        by_cases hlt : j < len3
        · obtain ⟨b, off, rfl, hat⟩ := (Hops3.out.below HIr.out.B).cells (by omega)
          obtain ⟨k0, k1, k2, kw⟩ := hat j hlt
          clear hat
          generalize f3 j = o at *
          go_upto_region 20 with fail
          have HI1 := Lib.hid (HIr.out.below (below_alloc wr (Obj.cells #[.int .i64 o.k, .int .i64 o.x, .int .i64 o.y] 32)))
          have HO1 := Lib.hid (Blk.new wr 32 #[.int .i64 o.k, .int .i64 o.x, .int .i64 o.y])
          clear k0 k1 k2 kw HIr
          generalize wr.alloc (Obj.cells #[.int .i64 o.k, .int .i64 o.x, .int .i64 o.y] 32) = W1 at *
          generalize wr.heap.size = ob at *
          have c0 : W1.cell? ⟨ob, 0, none⟩ = some (.int .i64 o.k) := (HO1.out.cell 0).trans rfl
          have c1 : W1.cell? ⟨ob, 1, none⟩ = some (.int .i64 o.x) := (HO1.out.cell 1).trans rfl
          by_cases h6 : o.k = 6
          · have d6 : (o.k == 6) = true := by simp [h6]
            clear h6
            go_wp2_with fail
            go_roundw
            case rel => exact ⟨j + 1, _, _, by omega, by go_num, HI1.out, HOk.out, Hfq.out, Hx1.out⟩
            case measure => simp [intOf]; omega
          have H6 := Lib.hid h6
          have d6 : (o.k == 6) = false := by simpa using h6
          clear h6
          by_cases h7 : o.k = 7
          · have d7 : (o.k == 7) = true := by simp [h7]
            clear h7
            go_wp2_with fail
            go_roundw
            case rel => exact ⟨j + 1, _, _, by omega, by go_num, HI1.out, HOk.out, Hfq.out, Hx1.out⟩
            case measure => simp [intOf]; omega
          have H7 := Lib.hid h7
          have d7 : (o.k == 7) = false := by simpa using h7
          clear h7
          by_cases h8 : o.k = 8
          · have d8 : (o.k == 8) = true := by simp [h8]
            clear h8
            go_wp2_with fail
            go_roundw
            case rel => exact ⟨j + 1, _, _, by omega, by go_num, HI1.out, HOk.out, Hfq.out, Hx1.out⟩
            case measure => simp [intOf]; omega
          have H8 := Lib.hid h8
          have d8 : (o.k == 8) = false := by simpa using h8
          clear h8
          go_wp2_with fail
          refine (zrdI o.x HI1.out.z HOk.out).mono ?_
          rintro e W2 ⟨rfl, rfl⟩
          rw [rdV_int Hxs.out]
          have hln : z'.xs.length = z1.xs.length := congrArg List.length Hx1.out
          rcases Hq.out with h3 | h4
          · have hE : rdE z' o.x = if holB z' o.x = true then 0 else 31 := by unfold rdE; rw [if_neg (by rw [Hfq.out, h3]; decide)]
            generalize rdN z' r.zs o.x = RN at *
            have q4 : (q == 4) = false := by rw [h3]; rfl
            have q3 : (q == 3) = true := by rw [h3]; rfl
            clear h3
            by_cases x0 : 0 ≤ o.x
            · by_cases x1 : o.x < (z1.xs.length : Int)
              · have hh : holB z' o.x = true := by unfold holB; simp [x0, hln, x1]
                rw [hE, if_pos hh]
                clear hE hh hln
                go_wp2_with (first | (refine wpl_load rfl _ rfl X rfl _ _ _ (HI1.out.bX) Try.underlying30 rfl Try.infoRf ?_; go_frame) | (refine wpl_load rfl _ rfl ob rfl _ _ _ (HO1.out) Try.underlying32 rfl Try.infoOpF ?_; go_frame))
                refine (wstep o.k o.x o.y Hxs.out HI1.out.z HOk.out HI1.out.own Hrok.out HI1.out.ap HI1.out.lo).mono ?_
                rintro e W2 ⟨v', u', rfl, hz', ho', hap', hk', hf'⟩
                obtain ⟨s1, s2, s3⟩ := failed_stays Hxs.out HOk.out Hfq.out Hq.out o.k o.x o.y H6.out H7.out H8.out
                have hi2 := HI1.out.stay hz' hk' hf'
                generalize stZ z' r.zs o.k o.x o.y = z2 at *
                have HI2 := Lib.hid hi2
                have S1 := Lib.hid (s1.trans Hx1.out)
                have S2 := Lib.hid s2
                have S3 := Lib.hid s3
                clear hz' ho' hap' hk' hf' s1 s2 s3 hi2
                go_wp2_with fail
                refine (zstI HI2.out.z).mono ?_
                rintro e W3 ⟨rfl, hb⟩
                rw [show stI z2 = q by rw [stI_yes (by rw [S3.out]; have := Hq.out; omega)]; exact S3.out]
                have HI3 := Lib.hid (HI2.out.below hb)
                clear hb
                go_wp2_with fail
                refine (zlenI HI3.out.z).mono ?_
                rintro e W4 ⟨rfl, rfl⟩
                rw [show z2.xs.length = z1.xs.length from congrArg List.length S1.out]
                go_wp2_with fail
                go_roundw
                case rel => exact ⟨j + 1, _, _, by omega, by go_num, HI3.out, S2.out, S3.out, S1.out⟩
                case measure => simp [intOf]; omega
              · have hh : ¬ holB z' o.x = true := by unfold holB; simp [hln, x1]
                rw [hE, if_neg hh]
                clear hE hh hln
                go_wp2_with (first | (refine wpl_load rfl _ rfl X rfl _ _ _ (HI1.out.bX) Try.underlying30 rfl Try.infoRf ?_; go_frame) | (refine wpl_load rfl _ rfl ob rfl _ _ _ (HO1.out) Try.underlying32 rfl Try.infoOpF ?_; go_frame))
                refine (wstep o.k o.x o.y Hxs.out HI1.out.z HOk.out HI1.out.own Hrok.out HI1.out.ap HI1.out.lo).mono ?_
                rintro e W2 ⟨v', u', rfl, hz', ho', hap', hk', hf'⟩
                obtain ⟨s1, s2, s3⟩ := failed_stays Hxs.out HOk.out Hfq.out Hq.out o.k o.x o.y H6.out H7.out H8.out
                have hi2 := HI1.out.stay hz' hk' hf'
                generalize stZ z' r.zs o.k o.x o.y = z2 at *
                have HI2 := Lib.hid hi2
                have S1 := Lib.hid (s1.trans Hx1.out)
                have S2 := Lib.hid s2
                have S3 := Lib.hid s3
                clear hz' ho' hap' hk' hf' s1 s2 s3 hi2
                go_wp2_with fail
                refine (zstI HI2.out.z).mono ?_
                rintro e W3 ⟨rfl, hb⟩
                rw [show stI z2 = q by rw [stI_yes (by rw [S3.out]; have := Hq.out; omega)]; exact S3.out]
                have HI3 := Lib.hid (HI2.out.below hb)
                clear hb
                go_wp2_with fail
                refine (zlenI HI3.out.z).mono ?_
                rintro e W4 ⟨rfl, rfl⟩
                rw [show z2.xs.length = z1.xs.length from congrArg List.length S1.out]
                go_wp2_with fail
                go_roundw
                case rel => exact ⟨j + 1, _, _, by omega, by go_num, HI3.out, S2.out, S3.out, S1.out⟩
                case measure => simp [intOf]; omega
            · have hh : ¬ holB z' o.x = true := by unfold holB; simp [x0]
              rw [hE, if_neg hh]
              clear hE hh hln
              go_wp2_with (first | (refine wpl_load rfl _ rfl X rfl _ _ _ (HI1.out.bX) Try.underlying30 rfl Try.infoRf ?_; go_frame) | (refine wpl_load rfl _ rfl ob rfl _ _ _ (HO1.out) Try.underlying32 rfl Try.infoOpF ?_; go_frame))
              refine (wstep o.k o.x o.y Hxs.out HI1.out.z HOk.out HI1.out.own Hrok.out HI1.out.ap HI1.out.lo).mono ?_
              rintro e W2 ⟨v', u', rfl, hz', ho', hap', hk', hf'⟩
              obtain ⟨s1, s2, s3⟩ := failed_stays Hxs.out HOk.out Hfq.out Hq.out o.k o.x o.y H6.out H7.out H8.out
              have hi2 := HI1.out.stay hz' hk' hf'
              generalize stZ z' r.zs o.k o.x o.y = z2 at *
              have HI2 := Lib.hid hi2
              have S1 := Lib.hid (s1.trans Hx1.out)
              have S2 := Lib.hid s2
              have S3 := Lib.hid s3
              clear hz' ho' hap' hk' hf' s1 s2 s3 hi2
              go_wp2_with fail
              refine (zstI HI2.out.z).mono ?_
              rintro e W3 ⟨rfl, hb⟩
              rw [show stI z2 = q by rw [stI_yes (by rw [S3.out]; have := Hq.out; omega)]; exact S3.out]
              have HI3 := Lib.hid (HI2.out.below hb)
              clear hb
              go_wp2_with fail
              refine (zlenI HI3.out.z).mono ?_
              rintro e W4 ⟨rfl, rfl⟩
              rw [show z2.xs.length = z1.xs.length from congrArg List.length S1.out]
              go_wp2_with fail
              go_roundw
              case rel => exact ⟨j + 1, _, _, by omega, by go_num, HI3.out, S2.out, S3.out, S1.out⟩
              case measure => simp [intOf]; omega
          · have hE : rdE z' o.x = 32 := by unfold rdE; rw [if_pos (by rw [Hfq.out, h4])]
            have hN : rdN z' r.zs o.x = 0 := by unfold rdN; rw [hE]; rfl
            rw [hE, hN]
            have q4 : (q == 4) = true := by rw [h4]; rfl
            have q3 : (q == 3) = false := by rw [h4]; rfl
            clear hE hN hln h4
            go_wp2_with (first | (refine wpl_load rfl _ rfl X rfl _ _ _ (HI1.out.bX) Try.underlying30 rfl Try.infoRf ?_; go_frame) | (refine wpl_load rfl _ rfl ob rfl _ _ _ (HO1.out) Try.underlying32 rfl Try.infoOpF ?_; go_frame))
            refine (wstep o.k o.x o.y Hxs.out HI1.out.z HOk.out HI1.out.own Hrok.out HI1.out.ap HI1.out.lo).mono ?_
            rintro e W2 ⟨v', u', rfl, hz', ho', hap', hk', hf'⟩
            obtain ⟨s1, s2, s3⟩ := failed_stays Hxs.out HOk.out Hfq.out Hq.out o.k o.x o.y H6.out H7.out H8.out
            have hi2 := HI1.out.stay hz' hk' hf'
            generalize stZ z' r.zs o.k o.x o.y = z2 at *
            have HI2 := Lib.hid hi2
            have S1 := Lib.hid (s1.trans Hx1.out)
            have S2 := Lib.hid s2
            have S3 := Lib.hid s3
            clear hz' ho' hap' hk' hf' s1 s2 s3 hi2
            go_wp2_with fail
            refine (zstI HI2.out.z).mono ?_
            rintro e W3 ⟨rfl, hb⟩
            rw [show stI z2 = q by rw [stI_yes (by rw [S3.out]; have := Hq.out; omega)]; exact S3.out]
            have HI3 := Lib.hid (HI2.out.below hb)
            clear hb
            go_wp2_with fail
            refine (zlenI HI3.out.z).mono ?_
            rintro e W4 ⟨rfl, rfl⟩
            rw [show z2.xs.length = z1.xs.length from congrArg List.length S1.out]
            go_wp2_with fail
            go_roundw
            case rel => exact ⟨j + 1, _, _, by omega, by go_num, HI3.out, S2.out, S3.out, S1.out⟩
            case measure => simp [intOf]; omega
        · obtain rfl : j = len3 := by omega
          go_wp2_with fail
          go_ret
          exact ⟨rfl, HIr.out.B⟩

theorem walkZoneFailed (size : Int) (a : Option Addr) (len cap : Nat) (f : Nat → OpR) (st : Int) (a3 : Option Addr) (len3 cap3 : Nat) (f3 : Nat → OpR) (w : World) (h0 : (Lit.int .i64 size).wf = true) (h1 : RowOp w a len cap f) (h2 : (Lit.int .i64 st).wf = true) (h3 : RowOp w a3 len3 cap3 f3) : Calls Try.prog 5 #[.int .i64 size, .slice a len cap, .int .i64 st, .slice a3 len3 cap3] w fun e w' => e = .returned (.bool true) ∧ Below w.heap.size w w' := by
  by_cases h : size < 1 ∨ 64 < size
  · exact walkZoneFailed_n size a len cap st a3 len3 cap3 w h
  · by_cases hl : 80 < len ∨ 80 < len3
    · exact walkZoneFailed_l size a len cap st a3 len3 cap3 w (by omega) (by omega) hl
    · by_cases e3 : st = 3
      · subst e3
        exact walkZoneFailed_3 size a len cap f a3 len3 cap3 f3 w (by omega) (by omega) h1 h3 (by omega) (by omega)
      · by_cases e4 : st = 4
        · subst e4
          exact walkZoneFailed_4 size a len cap f a3 len3 cap3 f3 w (by omega) (by omega) h1 h3 (by omega) (by omega)
        · exact walkZoneFailed_o size a len cap f st a3 len3 cap3 f3 w (by omega) (by omega) h1 h3 (by omega) (by omega) (by simpa using e3) (by simpa using e4)

end Go.Proofs.Ytflcfhjpmajggaa
