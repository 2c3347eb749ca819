/-
  Layer 6 (zone): the anchor, a step of both.
-/
import Derived.Test.YtflcfhjpmajggaaZoneF
namespace Go.Proofs.Ytflcfhjpmajggaa
open Go.RowKit
set_option linter.unusedVariables false
set_option linter.unnecessarySimpa false
set_option linter.unusedSimpArgs false

theorem ZAt.bel {lo A : Nat} {v : Value} {z : ZoR} {w0 w w' : World} {T E : TypeId} (hz : ZAt T E lo w A v z) (hB : Below lo w0 w) (hlo : lo ≤ w0.heap.size) (k : Kept (ZF A v) w w') : Below lo w0 w' :=
  bkept hB hlo k (fun i hi h => by have := hz.lov h; omega)
/-- The anchor's zone. -/
def zc (s : Int) (xs : List Value) : ZoR := ⟨4, s, false, 0, xs⟩
theorem zc_ok {s : Int} {xs : List Value} (h : (xs.length : Int) ≤ 4) (h1 : 0 ≤ s) (h2 : s ≤ (xs.length : Int)) (h3 : ∀ u ∈ xs, u.oneCell' = true) : ZOk (zc s xs) := ⟨by simp [zc], h, ⟨h1, h2⟩, .inl rfl, h3⟩

set_option maxRecDepth 100000 in
set_option maxHeartbeats 2000000 in
theorem anchor6_any (w : World) : Calls Try.prog 7 #[] w fun e w' => e = .returned (.bool true) ∧ Below w.heap.size w w' := by
  go_enter Try.func7, Try.ntmps7
  go_wp2_with fail
  refine (znewI_ok 4 w (by decide) (by decide)).mono ?_
  rintro e w1 ⟨rfl, hw1⟩
  have hz : ZAt 56 3 w.heap.size w1 w.heap.size (.slice none 0 0) (zc 0 []) := by rw [hw1]; exact zat_new w 4 (Nat.le_refl _)
  have hb : Below w.heap.size w w1 := by rw [hw1]; exact below_alloc _ _
  have Hz := Lib.hid hz
  have Hb := Lib.hid hb
  have hle : w.heap.size ≤ w1.heap.size := hb.size
  clear hz hb hw1
  have hle0 : w.heap.size ≤ w.heap.size := Nat.le_refl _
  have hle1 := hle
  go_wp2_with fail
  refine (zapI 1 Hz.out (zc_ok (s := 0) (xs := []) (by decide) (by decide) (by decide) (by intro u hu; simp at hu; try (first | (rcases hu with rfl | rfl | rfl <;> rfl) | (rcases hu with rfl | rfl <;> rfl) | (subst hu; rfl)))) hle1).mono ?_
  rintro e w2 ⟨rfl, hT⟩
  obtain ⟨v2, hz, hk, _⟩ := hT
  rw [show apZ (zc 0 []) (.int .i64 1) = zc 0 [.int .i64 1] by simp [apZ, apE, refI, stI, zc]] at hz
  have Hb2 := Lib.hid (Hz.out.bel Hb.out hle0 hk)
  have hle2 := Hb2.out.size
  have Hz2 := Lib.hid hz
  clear hz hk
  go_wp2_with fail
  refine (zapI 2 Hz2.out (zc_ok (s := 0) (xs := [.int .i64 1]) (by decide) (by decide) (by decide) (by intro u hu; simp at hu; try (first | (rcases hu with rfl | rfl | rfl <;> rfl) | (rcases hu with rfl | rfl <;> rfl) | (subst hu; rfl)))) hle2).mono ?_
  rintro e w3 ⟨rfl, hT⟩
  obtain ⟨v3, hz, hk, _⟩ := hT
  rw [show apZ (zc 0 [.int .i64 1]) (.int .i64 2) = zc 0 [.int .i64 1, .int .i64 2] by simp [apZ, apE, refI, stI, zc]] at hz
  have Hb3 := Lib.hid (Hz2.out.bel Hb2.out hle0 hk)
  have hle3 := Hb3.out.size
  have Hz3 := Lib.hid hz
  clear hz hk
  go_wp2_with fail
  refine (zfl Hz3.out).mono ?_
  rintro e w4 ⟨rfl, hT⟩
  obtain ⟨v4, hz, hk, _⟩ := hT
  rw [show flZ (zc 0 [.int .i64 1, .int .i64 2]) = zc 2 [.int .i64 1, .int .i64 2] by simp [flZ, zc]] at hz
  have Hb4 := Lib.hid (Hz3.out.bel Hb3.out hle0 hk)
  have hle4 := Hb4.out.size
  have Hz4 := Lib.hid hz
  clear hz hk
  go_wp2_with fail
  refine (zapI 3 Hz4.out (zc_ok (s := 2) (xs := [.int .i64 1, .int .i64 2]) (by decide) (by decide) (by decide) (by intro u hu; simp at hu; try (first | (rcases hu with rfl | rfl | rfl <;> rfl) | (rcases hu with rfl | rfl <;> rfl) | (subst hu; rfl)))) hle4).mono ?_
  rintro e w5 ⟨rfl, hT⟩
  obtain ⟨v5, hz, hk, _⟩ := hT
  rw [show apZ (zc 2 [.int .i64 1, .int .i64 2]) (.int .i64 3) = zc 2 [.int .i64 1, .int .i64 2, .int .i64 3] by simp [apZ, apE, refI, stI, zc]] at hz
  have Hb5 := Lib.hid (Hz4.out.bel Hb4.out hle0 hk)
  have hle5 := Hb5.out.size
  have Hz5 := Lib.hid hz
  clear hz hk
  go_wp2_with fail
  refine (zcr 0 Hz5.out (zc_ok (s := 2) (xs := [.int .i64 1, .int .i64 2, .int .i64 3]) (by decide) (by decide) (by decide) (by intro u hu; simp at hu; try (first | (rcases hu with rfl | rfl | rfl <;> rfl) | (rcases hu with rfl | rfl <;> rfl) | (subst hu; rfl)))) hle5).mono ?_
  rintro e w6 ⟨rfl, hT⟩
  obtain ⟨v6, hz, hk, _⟩ := hT
  rw [show crZ (zc 2 [.int .i64 1, .int .i64 2, .int .i64 3]) 0 = zc 2 [.int .i64 1, .int .i64 2] by (simp [crZ, keepN, zc]; exact ⟨by decide, rfl⟩)] at hz
  have Hb6 := Lib.hid (Hz5.out.bel Hb5.out hle0 hk)
  have hle6 := Hb6.out.size
  have Hz6 := Lib.hid hz
  clear hz hk
  go_wp2_with fail
  refine (zlenI Hz6.out).mono ?_
  rintro e w7 ⟨rfl, rfl⟩
  rw [show (zc 2 [.int .i64 1, .int .i64 2]).xs.length = 2 from rfl]
  go_wp2_with fail
  refine (zstI Hz6.out).mono ?_
  rintro e w8 ⟨rfl, hb8⟩
  rw [show stI (zc 2 [.int .i64 1, .int .i64 2]) = 1 by simp [stI, zc]]
  have Hz8 := Lib.hid (Hz6.out.below hb8)
  have Hb8 := Lib.hid (Hb6.out.trans (hb8.mono hle6))
  clear hb8
  go_wp2_with fail
  refine (zsa Hz8.out).mono ?_
  rintro e w9 ⟨rfl, rfl⟩
  rw [show (zc 2 [.int .i64 1, .int .i64 2]).safe = 2 from rfl]
  go_wp2_with fail
  go_ret
  exact ⟨rfl, Hb8.out⟩

/-- While a step goes on: the document's zone at block n, the step at n + 1, what is told at n + 2; the zone; the sectors of x. -/
structure StS (lo A : Nat) (w0 : World) (v0 : Value) (q0 qo q2 : Array Value) (v : Value) (z : ZoR) (u : Value) (r : RfR) (w : World) : Prop where
  x0 : Blk w w0.heap.size 30 q0
  x1 : Blk w (w0.heap.size + 1) 32 qo
  x2 : Blk w (w0.heap.size + 2) 30 q2
  z : ZAt 56 3 lo w A v z
  own : w.ownsRow lo 3 1 u r.zs.length (ivals r.zs)
  ap : ∀ g, u.ownBlock = some g → v.ownBlock ≠ some g
  k : Kept (ZF A v0) w0 w
  fr : ∀ g, v.ownBlock = some g → v0.ownBlock = some g ∨ w0.heap.size ≤ g
section
variable {lo A : Nat} {w0 w w' : World} {v0 v u u' : Value} {q0 qo q2 : Array Value} {z z' : ZoR} {r r' : RfR}
theorem StS.start (hz : ZAt 56 3 lo w A v z) (hu : w.ownsRow lo 3 1 u r.zs.length (ivals r.zs)) (hap : ∀ g, u.ownBlock = some g → v.ownBlock ≠ some g) :
    StS lo A w v q0 qo q2 v z u r (((w.alloc (Obj.cells q0 30)).alloc (Obj.cells qo 32)).alloc (Obj.cells q2 30)) := by
  have b1 := below_alloc w (Obj.cells q0 30)
  have b2 := bthen b1 (below_alloc _ (Obj.cells qo 32))
  have b3 := bthen b2 (below_alloc _ (Obj.cells q2 30))
  have h1 := Blk.new (w.alloc (Obj.cells q0 30)) 32 qo
  rw [show (w.alloc (Obj.cells q0 30)).heap.size = w.heap.size + 1 by simp] at h1
  have h2 := Blk.new ((w.alloc (Obj.cells q0 30)).alloc (Obj.cells qo 32)) 30 q2
  rw [show ((w.alloc (Obj.cells q0 30)).alloc (Obj.cells qo 32)).heap.size = w.heap.size + 2 by simp] at h2
  exact ⟨((Blk.new w 30 q0).alloc _).alloc _, h1.alloc _, h2, hz.below b3, own_below hu b3, hap, Kept.of_below b3, fun _ h => .inl h⟩
theorem StS.below (h : StS lo A w0 v0 q0 qo q2 v z u r w) (hb : Below w.heap.size w w') : StS lo A w0 v0 q0 qo q2 v z u r w' :=
  ⟨h.x0.below hb h.x0.lt, h.x1.below hb h.x1.lt, h.x2.below hb h.x2.lt, h.z.below hb, own_below h.own hb, h.ap, kept_next h.k hb, h.fr⟩
theorem StS.ret (h : StS lo A w0 v0 q0 qo q2 v z u r w) (hb : Below w.heap.size w w') (hu : w'.ownsRow lo 3 1 u' r'.zs.length (ivals r'.zs)) (hf : ∀ g, u'.ownBlock = some g → u.ownBlock = some g ∨ w.heap.size ≤ g) : StS lo A w0 v0 q0 qo q2 v z u' r' w' :=
  ⟨h.x0.below hb h.x0.lt, h.x1.below hb h.x1.lt, h.x2.below hb h.x2.lt, h.z.below hb, hu, fun g hg e => by
    rcases hf g hg with h1 | h1
    · exact h.ap g h1 e
    · have := h.z.lt (.inr e); omega, kept_next h.k hb, h.fr⟩
/-- Block m, that is none of these, is written. -/
theorem StS.keep {m : Nat} {c : Array Value} (h : StS lo A w0 v0 q0 qo q2 v z u r w) (hm : Blk w m 30 c) (h0 : w0.heap.size + 2 < m) (hk : Kept (· = m) w w') : StS lo A w0 v0 q0 qo q2 v z u r w' :=
  ⟨h.x0.kept hk (by omega), h.x1.kept hk (by omega), h.x2.kept hk (by omega), h.z.kept hk (fun i hi e => by
      subst e
      rcases hi with e | e
      · exact Blk.unlike hm h.z.blk (by decide) e
      · exact own_unlike h.z.own hm (by decide) e.symm),
    own_kept h.own hk (fun g hg e => own_unlike h.own hm (by decide) (by rw [hg]; exact congrArg some e.symm)), h.ap,
    h.k.andThen hk (fun _ _ h => h) (fun i hi e => by omega), h.fr⟩
theorem StS.zto (h : StS lo A w0 v0 q0 qo q2 v z u r w) (hT : ZTo 56 3 lo w A v z' w') : ∃ v', StS lo A w0 v0 q0 qo q2 v' z' u r w' := by
  have b0 := hT.blk h.z h.x0 (by decide) (by decide)
  have b1 := hT.blk h.z h.x1 (by decide) (by decide)
  have b2 := hT.blk h.z h.x2 (by decide) (by decide)
  have hfr : ∀ v' : Value, (∀ g, v'.ownBlock = some g → v.ownBlock = some g ∨ w.heap.size ≤ g) → ∀ g, v'.ownBlock = some g → v0.ownBlock = some g ∨ w0.heap.size ≤ g := fun v' hf g hg => by
    rcases hf g hg with h1 | h1
    · exact h.fr g h1
    · exact .inr (by have := h.x0.lt; omega)
  obtain ⟨v', h1, h2, h3⟩ := hT
  refine ⟨v', b0, b1, b2, h1, own_kept h.own h2 (fun g hg hS => ?_), fun g hg e => ?_, h.k.andThen h2 (fun _ _ h => h) (fun i hi hz => ?_), hfr v' h3⟩
  · rcases hS with rfl | e
    · exact own_unlike h.own h.z.blk (by decide) hg.symm
    · exact h.ap g hg e
  · rcases h3 g e with h4 | h4
    · exact h.ap g hg h4
    · have := own_lt h.own hg; omega
  · rcases hz with rfl | hz
    · exact .inl rfl
    · rcases h.fr i hz with h4 | h4
      · exact .inr h4
      · omega
theorem StS.out {q3 : Array Value} (h : StS lo A w0 v0 q0 qo q2 v z u r w) (hg : Blk w' (w0.heap.size + 2) 30 q3) (hk : Kept (· = w0.heap.size + 2) w w') : StS lo A w0 v0 q0 qo q3 v z u r w' :=
  ⟨h.x0.kept hk (by omega), h.x1.kept hk (by omega), hg, h.z.kept hk (fun i hi e => by
      subst e
      rcases hi with e | e
      · exact Blk.unlike h.x2 h.z.blk (by decide) e
      · exact own_unlike h.z.own h.x2 (by decide) e.symm),
    own_kept h.own hk (fun g hg e => own_unlike h.own h.x2 (by decide) (by rw [hg]; exact congrArg some e.symm)), h.ap,
    h.k.andThen hk (fun _ _ h => h) (fun i hi e => by omega), h.fr⟩
end

/-- What a step tells and leaves. -/
def STo (lo A : Nat) (w : World) (v u : Value) (z' : ZoR) (r' : RfR) (b : Bool) (e : Ending) (w' : World) : Prop :=
  ∃ v' u', e = .returned (.tuple #[.agg (rfA r' u'), .bool b]) ∧ ZAt 56 3 lo w' A v' z' ∧ w'.ownsRow lo 3 1 u' r'.zs.length (ivals r'.zs) ∧ (∀ g, u'.ownBlock = some g → v'.ownBlock ≠ some g) ∧ Kept (ZF A v) w w' ∧ ∀ g, v'.ownBlock = some g → v.ownBlock = some g ∨ w.heap.size ≤ g

set_option maxRecDepth 100000 in
set_option maxHeartbeats 2000000 in
theorem wstep1 {lo A : Nat} {v u : Value} {z : ZoR} {r : RfR} {w : World} (x y : Int) (hz : ZAt 56 3 lo w A v z) (hok : ZOk z) (hu : w.ownsRow lo 3 1 u r.zs.length (ivals r.zs)) (hrk : ROk r) (hap : ∀ g, u.ownBlock = some g → v.ownBlock ≠ some g) (hlo : lo ≤ w.heap.size) : Calls Try.prog 9 #[.pointer (some ⟨A, 0, none⟩), .agg (rfA r u), .agg #[.int .i64 1, .int .i64 x, .int .i64 y]] w fun e w' => STo lo A w v u (apZ z (.int .i64 x)) (raR r x) ((apO z == raO r) && (apE z == raE r)) e w' := by
  obtain ⟨a, cap, rfl⟩ := own_slice hu
  have HS : Hid (StS lo A w v (rfA r (.slice a r.zs.length cap)) #[.int .i64 1, .int .i64 x, .int .i64 y] #[.slice none 0 0, .int .i64 0, .int .i64 0, .int .i64 0, .bool false] v z (.slice a r.zs.length cap) r (((w.alloc (Obj.cells (rfA r (.slice a r.zs.length cap)) 30)).alloc (Obj.cells #[.int .i64 1, .int .i64 x, .int .i64 y] 32)).alloc (Obj.cells #[.slice none 0 0, .int .i64 0, .int .i64 0, .int .i64 0, .bool false] 30))) := Lib.hid (StS.start hz hu hap)
  have Hok := Lib.hid hok
  have Hrk := Lib.hid hrk
  have Hlo := Lib.hid hlo
  clear hz hu hap hok hrk hlo
  go_enter Try.func9, Try.ntmps9
  go_upto_region 1 with fail
  generalize ((w.alloc (Obj.cells (rfA r (.slice a r.zs.length cap)) 30)).alloc (Obj.cells #[.int .i64 1, .int .i64 x, .int .i64 y] 32)).alloc (Obj.cells #[.slice none 0 0, .int .i64 0, .int .i64 0, .int .i64 0, .bool false] 30) = w0 at *
  have c10 : w0.cell? ⟨w.heap.size + 1, 0, none⟩ = some (.int .i64 1) := (HS.out.x1.cell 0).trans rfl
  have c11 : w0.cell? ⟨w.heap.size + 1, 1, none⟩ = some (.int .i64 x) := (HS.out.x1.cell 1).trans rfl
  have hl0 : lo ≤ w0.heap.size := by have := HS.out.x2.lt; have := Hlo.out; omega
  go_wp2_with fail
  refine (zapI x HS.out.z Hok.out hl0).mono ?_
  rintro e w1 ⟨rfl, hT⟩
  obtain ⟨v1, hS1⟩ := HS.out.zto hT
  have HS1 := Lib.hid hS1
  have hl1 : lo ≤ w1.heap.size := by have := HS1.out.x2.lt; have := Hlo.out; omega
  clear hT hS1
  have c11 : w1.cell? ⟨w.heap.size + 1, 1, none⟩ = some (.int .i64 x) := (HS1.out.x1.cell 1).trans rfl
  go_wp2_with (first | (refine wpl_load rfl _ rfl (w.heap.size) rfl _ _ _ (HS1.out.x0) Try.underlying30 rfl Try.infoRf ?_; go_frame))
  refine (rap x HS1.out.own Hrk.out hl1).mono ?_
  rintro e w2 ⟨u', rfl, ho, hf, hb⟩
  obtain ⟨a', cap', rfl⟩ := own_slice ho
  have HS2 := Lib.hid (HS1.out.ret hb ho hf)
  clear ho hf hb
  go_upto_region 5 with (refine wpl_store rfl _ _ rfl (w2.heap.size) (rfA (raR r x) (.slice a' (raR r x).zs.length cap')) rfl rfl _ _ (Blk.new w2 30 _) Try.infoRf rfl (rfA_one _ _ _ _) ?_; intro w3 hSy hKy; have HSy := Lib.hid hSy; have HS3 := Lib.hid ((HS2.out.below (below_alloc w2 _)).keep (Blk.new w2 30 _) (by have := HS2.out.x2.lt; omega) hKy); clear hSy hKy; go_frame)
  cases hd : (apO z == raO r) with
  | true =>
    go_wp2_with (first | (refine wpl_load rfl _ rfl (w2.heap.size) rfl _ _ _ (HSy.out) Try.underlying30 rfl Try.infoRf ?_; go_frame) | (refine wpl_store rfl _ _ rfl (w.heap.size + 2) (rfA (raR r x) (.slice a' (raR r x).zs.length cap')) rfl rfl _ _ HS3.out.x2 Try.infoRf rfl (rfA_one _ _ _ _) ?_; intro w4 hSg hKg; have HSg := Lib.hid hSg; have HKg := Lib.hid hKg; clear hSg hKg; go_frame))
    have HF := Lib.hid (HS3.out.out HSg.out HKg.out)
    exact bodyPost_ret (v := .tuple #[.agg (rfA (raR r x) (.slice a' (raR r x).zs.length cap')), .bool ((apE z == raE r))]) (results_cell_slot Try.results9 _ _ (w.heap.size + 2) 30 _ _ _ rfl rfl HSg.out Try.underlying30 rfl Try.infoRf) rfl ⟨_, _, (by rw [hd]; rfl), HF.out.z, HF.out.own, HF.out.ap, HF.out.k, HF.out.fr⟩
  | false =>
    go_wp2_with (first | (refine wpl_load rfl _ rfl (w2.heap.size) rfl _ _ _ (HSy.out) Try.underlying30 rfl Try.infoRf ?_; go_frame) | (refine wpl_store rfl _ _ rfl (w.heap.size + 2) (rfA (raR r x) (.slice a' (raR r x).zs.length cap')) rfl rfl _ _ HS3.out.x2 Try.infoRf rfl (rfA_one _ _ _ _) ?_; intro w4 hSg hKg; have HSg := Lib.hid hSg; have HKg := Lib.hid hKg; clear hSg hKg; go_frame))
    have HF := Lib.hid (HS3.out.out HSg.out HKg.out)
    exact bodyPost_ret (v := .tuple #[.agg (rfA (raR r x) (.slice a' (raR r x).zs.length cap')), .bool (false)]) (results_cell_slot Try.results9 _ _ (w.heap.size + 2) 30 _ _ _ rfl rfl HSg.out Try.underlying30 rfl Try.infoRf) rfl ⟨_, _, (by rw [hd]; rfl), HF.out.z, HF.out.own, HF.out.ap, HF.out.k, HF.out.fr⟩

def rdN (z : ZoR) (zs : List Int) (off : Int) : Int := if rdE z off = 0 then zs.getD off.toNat 0 else 0
theorem rdV_int {z : ZoR} {zs : List Int} (h : z.xs = ivals zs) (off : Int) : rdV (.int .i64 0) z off = .int .i64 (rdN z zs off) := by
  unfold rdV rdN
  by_cases hE : rdE z off = 0
  · rw [if_pos hE, if_pos hE, h]
    by_cases hi : off.toNat < zs.length
    · have h1 := ivals_at zs off.toNat hi
      rw [List.getD_eq_getElem?_getD, h1]; rfl
    · rw [List.getD_eq_getElem?_getD, List.getElem?_eq_none (by rw [ivals_length]; omega), List.getD_eq_getElem?_getD, List.getElem?_eq_none (by omega)]; rfl
  · rw [if_neg hE, if_neg hE]

set_option maxRecDepth 100000 in
set_option maxHeartbeats 2000000 in
theorem wstep2 {lo A : Nat} {v u : Value} {z : ZoR} {r : RfR} {w : World} {zs : List Int} (x y : Int) (hzs : z.xs = ivals zs) (hz : ZAt 56 3 lo w A v z) (hok : ZOk z) (hu : w.ownsRow lo 3 1 u r.zs.length (ivals r.zs)) (hrk : ROk r) (hap : ∀ g, u.ownBlock = some g → v.ownBlock ≠ some g) (hlo : lo ≤ w.heap.size) : Calls Try.prog 9 #[.pointer (some ⟨A, 0, none⟩), .agg (rfA r u), .agg #[.int .i64 2, .int .i64 x, .int .i64 y]] w fun e w' => STo lo A w v u (z) (r) ((rdN z zs x == rrV r x) && (rdE z x == rrE r x)) e w' := by
  have Hzs := Lib.hid hzs
  clear hzs
  obtain ⟨a, cap, rfl⟩ := own_slice hu
  have HS : Hid (StS lo A w v (rfA r (.slice a r.zs.length cap)) #[.int .i64 2, .int .i64 x, .int .i64 y] #[.slice none 0 0, .int .i64 0, .int .i64 0, .int .i64 0, .bool false] v z (.slice a r.zs.length cap) r (((w.alloc (Obj.cells (rfA r (.slice a r.zs.length cap)) 30)).alloc (Obj.cells #[.int .i64 2, .int .i64 x, .int .i64 y] 32)).alloc (Obj.cells #[.slice none 0 0, .int .i64 0, .int .i64 0, .int .i64 0, .bool false] 30))) := Lib.hid (StS.start hz hu hap)
  have Hok := Lib.hid hok
  have Hrk := Lib.hid hrk
  have Hlo := Lib.hid hlo
  clear hz hu hap hok hrk hlo
  go_enter Try.func9, Try.ntmps9
  go_upto_region 1 with fail
  generalize ((w.alloc (Obj.cells (rfA r (.slice a r.zs.length cap)) 30)).alloc (Obj.cells #[.int .i64 2, .int .i64 x, .int .i64 y] 32)).alloc (Obj.cells #[.slice none 0 0, .int .i64 0, .int .i64 0, .int .i64 0, .bool false] 30) = w0 at *
  have c10 : w0.cell? ⟨w.heap.size + 1, 0, none⟩ = some (.int .i64 2) := (HS.out.x1.cell 0).trans rfl
  have c11 : w0.cell? ⟨w.heap.size + 1, 1, none⟩ = some (.int .i64 x) := (HS.out.x1.cell 1).trans rfl
  have hl0 : lo ≤ w0.heap.size := by have := HS.out.x2.lt; have := Hlo.out; omega
  go_wp2_with fail
  refine (zrdI x HS.out.z Hok.out).mono ?_
  rintro e w1 ⟨rfl, rfl⟩
  rw [rdV_int Hzs.out]
  go_wp2_with (first | (refine wpl_load rfl _ rfl (w.heap.size) rfl _ _ _ (HS.out.x0) Try.underlying30 rfl Try.infoRf ?_; go_frame))
  refine (rrd x HS.out.own Hrk.out).mono ?_
  rintro e w1 ⟨rfl, hb⟩
  have HS1 := Lib.hid (HS.out.below hb)
  clear hb
  cases hd : (rdN z zs x == rrV r x) with
  | true =>
    go_wp2_with (first | (refine wpl_load rfl _ rfl (w.heap.size) rfl _ _ _ (HS1.out.x0) Try.underlying30 rfl Try.infoRf ?_; go_frame) | (refine wpl_store rfl _ _ rfl (w.heap.size + 2) (rfA r (.slice a r.zs.length cap)) rfl rfl _ _ HS1.out.x2 Try.infoRf rfl (rfA_one _ _ _ _) ?_; intro w4 hSg hKg; have HSg := Lib.hid hSg; have HKg := Lib.hid hKg; clear hSg hKg; go_frame))
    have HF := Lib.hid (HS1.out.out HSg.out HKg.out)
    exact bodyPost_ret (v := .tuple #[.agg (rfA r (.slice a r.zs.length cap)), .bool ((rdE z x == rrE r x))]) (results_cell_slot Try.results9 _ _ (w.heap.size + 2) 30 _ _ _ rfl rfl HSg.out Try.underlying30 rfl Try.infoRf) rfl ⟨_, _, (by rw [hd]; rfl), HF.out.z, HF.out.own, HF.out.ap, HF.out.k, HF.out.fr⟩
  | false =>
    go_wp2_with (first | (refine wpl_load rfl _ rfl (w.heap.size) rfl _ _ _ (HS1.out.x0) Try.underlying30 rfl Try.infoRf ?_; go_frame) | (refine wpl_store rfl _ _ rfl (w.heap.size + 2) (rfA r (.slice a r.zs.length cap)) rfl rfl _ _ HS1.out.x2 Try.infoRf rfl (rfA_one _ _ _ _) ?_; intro w4 hSg hKg; have HSg := Lib.hid hSg; have HKg := Lib.hid hKg; clear hSg hKg; go_frame))
    have HF := Lib.hid (HS1.out.out HSg.out HKg.out)
    exact bodyPost_ret (v := .tuple #[.agg (rfA r (.slice a r.zs.length cap)), .bool (false)]) (results_cell_slot Try.results9 _ _ (w.heap.size + 2) 30 _ _ _ rfl rfl HSg.out Try.underlying30 rfl Try.infoRf) rfl ⟨_, _, (by rw [hd]; rfl), HF.out.z, HF.out.own, HF.out.ap, HF.out.k, HF.out.fr⟩

set_option maxRecDepth 100000 in
set_option maxHeartbeats 2000000 in
theorem wstep3 {lo A : Nat} {v u : Value} {z : ZoR} {r : RfR} {w : World} (x y : Int) (hz : ZAt 56 3 lo w A v z) (hok : ZOk z) (hu : w.ownsRow lo 3 1 u r.zs.length (ivals r.zs)) (hrk : ROk r) (hap : ∀ g, u.ownBlock = some g → v.ownBlock ≠ some g) (hlo : lo ≤ w.heap.size) : Calls Try.prog 9 #[.pointer (some ⟨A, 0, none⟩), .agg (rfA r u), .agg #[.int .i64 3, .int .i64 x, .int .i64 y]] w fun e w' => STo lo A w v u (rsZ z) (rsR r) (refI z == rfF r) e w' := by
  obtain ⟨a, cap, rfl⟩ := own_slice hu
  have HS : Hid (StS lo A w v (rfA r (.slice a r.zs.length cap)) #[.int .i64 3, .int .i64 x, .int .i64 y] #[.slice none 0 0, .int .i64 0, .int .i64 0, .int .i64 0, .bool false] v z (.slice a r.zs.length cap) r (((w.alloc (Obj.cells (rfA r (.slice a r.zs.length cap)) 30)).alloc (Obj.cells #[.int .i64 3, .int .i64 x, .int .i64 y] 32)).alloc (Obj.cells #[.slice none 0 0, .int .i64 0, .int .i64 0, .int .i64 0, .bool false] 30))) := Lib.hid (StS.start hz hu hap)
  have Hok := Lib.hid hok
  have Hrk := Lib.hid hrk
  have Hlo := Lib.hid hlo
  clear hz hu hap hok hrk hlo
  go_enter Try.func9, Try.ntmps9
  go_upto_region 1 with fail
  generalize ((w.alloc (Obj.cells (rfA r (.slice a r.zs.length cap)) 30)).alloc (Obj.cells #[.int .i64 3, .int .i64 x, .int .i64 y] 32)).alloc (Obj.cells #[.slice none 0 0, .int .i64 0, .int .i64 0, .int .i64 0, .bool false] 30) = w0 at *
  have c10 : w0.cell? ⟨w.heap.size + 1, 0, none⟩ = some (.int .i64 3) := (HS.out.x1.cell 0).trans rfl
  have c11 : w0.cell? ⟨w.heap.size + 1, 1, none⟩ = some (.int .i64 x) := (HS.out.x1.cell 1).trans rfl
  have hl0 : lo ≤ w0.heap.size := by have := HS.out.x2.lt; have := Hlo.out; omega
  go_wp2_with (first | (refine wpl_load rfl _ rfl (w.heap.size) rfl _ _ _ (HS.out.x0) Try.underlying30 rfl Try.infoRf ?_; go_frame))
  refine (rrs HS.out.own).mono ?_
  rintro e w2 ⟨u', rfl, ho, hf, hb⟩
  obtain ⟨a', cap', rfl⟩ := own_slice ho
  have HS2 := Lib.hid (HS.out.ret hb ho hf)
  clear ho hf hb
  go_upto_region 12 with (refine wpl_store rfl _ _ rfl (w2.heap.size) (rfA (rsR r) (.slice a' (rsR r).zs.length cap')) rfl rfl _ _ (Blk.new w2 30 _) Try.infoRf rfl (rfA_one _ _ _ _) ?_; intro w3 hSy hKy; have HSy := Lib.hid hSy; have HS3 := Lib.hid ((HS2.out.below (below_alloc w2 _)).keep (Blk.new w2 30 _) (by have := HS2.out.x2.lt; omega) hKy); clear hSy hKy; go_frame)
  have Hne : Hid (∀ i, ZF A v i → w2.heap.size ≠ i) := Lib.hid (fun i hi e => by have := HS2.out.z.lt hi; omega)
  have hgne : w2.heap.size ≠ w.heap.size + 2 := by have := HS2.out.x2.lt; omega
  have hl3 : lo ≤ w3.heap.size := by have := HS3.out.x2.lt; have := Hlo.out; omega
  refine wp_region_held (S := fun w' => Kept (fun k => ZF A v k ∨ k = w.heap.size + 2) w3 w') (by kernel_rfl) ?_
  change wpAnyH _ _ _ _ _ _ _ _ (World.drew _)
  have hS : Kept (fun k => ZF A v k ∨ k = w.heap.size + 2) w3 w3.drew := (Kept.refl _ _).drew
  have hBd : Below w3.heap.size w3 w3.drew := (Below.refl _ _).drew
  refine takeH hS (i := 0) (d := 84) (v := .agg (rfA (rsR r) (.slice a' (rsR r).zs.length cap'))) rfl rfl (by kernel_rfl) (by kernel_rfl) (by kernel_rfl) (fun _ _ _ h => h) (Or.inl ⟨by kernel_rfl, fun w' hw' => by exact exec_load _ rfl (w2.heap.size) rfl (HSy.out.kept hw' (fun h => h.elim (fun h => Hne.out _ h rfl) hgne)) Try.underlying30 rfl Try.infoRf⟩) ?_
  refine takeH hS (i := 1) (d := 85) (v := .pointer (some ⟨A, 0, none⟩)) rfl rfl (by kernel_rfl) (by kernel_rfl) (by kernel_rfl) (fun _ _ _ h => h) (Or.inl ⟨by kernel_rfl, fun w' hw' => by kernel_rfl⟩) ?_
  try go_frame
  refine takeH hS (i := 3) (d := 87) (v := .int .i64 (rfF r)) rfl rfl (by kernel_rfl) (by kernel_rfl) (by kernel_rfl) (fun _ _ _ h => h) (Or.inl ⟨by kernel_rfl, fun w' hw' => by kernel_rfl⟩) ?_
  try go_frame
  refine nextH (i := 2) rfl (by kernel_rfl) (by kernel_rfl) (fun K' hK => ?_)
  go_wp2_with fail
  have HSd := Lib.hid (HS3.out.below hBd)
  refine (zrsI HSd.out.z).mono ?_
  rintro en w4 ⟨rfl, hT⟩
  obtain ⟨v1, hS1⟩ := HSd.out.zto hT
  have HS4 := Lib.hid hS1
  have hS4 : Kept (fun k => ZF A v k ∨ k = w.heap.size + 2) w3 w4 := by
    obtain ⟨_, _, hk, _⟩ := hT
    exact hS.andThen hk (fun _ _ h => h) (fun _ _ h => .inl h)
  refine hK.out _ _ ⟨hS4, ?_⟩
  clear hK K' hT hS1 hBd hS
  refine takeH hS4 (i := 4) (d := 88) (v := .bool (refI z == rfF r)) rfl rfl (by kernel_rfl) (by kernel_rfl) (by kernel_rfl) (fun _ _ _ h => h) (Or.inl ⟨by kernel_rfl, fun w' hw' => by exact exec_eql _ _ rfl (refI z) (rfF r) rfl rfl _ (by rfl) rfl⟩) ?_
  try go_frame
  refine nextH (i := 5) rfl (by kernel_rfl) (by kernel_rfl) (fun K' hK => ?_)
  refine wpo_store _ _ rfl (w.heap.size + 2) (rfA (rsR r) (.slice a' (rsR r).zs.length cap')) rfl rfl _ _ HS4.out.x2 Try.infoRf rfl (rfA_one _ _ _ _) ?_
  intro w5 hSg hKg
  have HSg := Lib.hid hSg
  have HKg := Lib.hid hKg
  have hS5 : Kept (fun k => ZF A v k ∨ k = w.heap.size + 2) w3 w5 := hS4.andThen hKg (fun _ _ h => h) (fun _ _ h => .inr h)
  refine hK.out _ _ ⟨hS5, ?_⟩
  clear hK K' hSg hKg hS4
  try go_frame
  refine takeH hS5 (i := 6) (d := 7) (v := .bool (refI z == rfF r)) rfl rfl (by kernel_rfl) (by kernel_rfl) (by kernel_rfl) (fun _ _ _ h => h) (Or.inl ⟨by kernel_rfl, fun w' hw' => by kernel_rfl⟩) ?_
  refine wpAnyH_done (by kernel_rfl) ?_ _
  try go_frame
  go_wp2_with fail
  have HF := Lib.hid (HS4.out.out HSg.out HKg.out)
  exact bodyPost_ret (v := .tuple #[.agg (rfA (rsR r) (.slice a' (rsR r).zs.length cap')), .bool (refI z == rfF r)]) (results_cell_slot Try.results9 _ _ (w.heap.size + 2) 30 _ _ _ rfl rfl HSg.out Try.underlying30 rfl Try.infoRf) rfl ⟨_, _, rfl, HF.out.z, HF.out.own, HF.out.ap, HF.out.k, HF.out.fr⟩

set_option maxRecDepth 100000 in
set_option maxHeartbeats 2000000 in
theorem wstep4 {lo A : Nat} {v u : Value} {z : ZoR} {r : RfR} {w : World} (x y : Int) (hz : ZAt 56 3 lo w A v z) (hok : ZOk z) (hu : w.ownsRow lo 3 1 u r.zs.length (ivals r.zs)) (hrk : ROk r) (hap : ∀ g, u.ownBlock = some g → v.ownBlock ≠ some g) (hlo : lo ≤ w.heap.size) : Calls Try.prog 9 #[.pointer (some ⟨A, 0, none⟩), .agg (rfA r u), .agg #[.int .i64 4, .int .i64 x, .int .i64 y]] w fun e w' => STo lo A w v u (fnZ z) (rnR r) (refI z == rfF r) e w' := by
  obtain ⟨a, cap, rfl⟩ := own_slice hu
  have HS : Hid (StS lo A w v (rfA r (.slice a r.zs.length cap)) #[.int .i64 4, .int .i64 x, .int .i64 y] #[.slice none 0 0, .int .i64 0, .int .i64 0, .int .i64 0, .bool false] v z (.slice a r.zs.length cap) r (((w.alloc (Obj.cells (rfA r (.slice a r.zs.length cap)) 30)).alloc (Obj.cells #[.int .i64 4, .int .i64 x, .int .i64 y] 32)).alloc (Obj.cells #[.slice none 0 0, .int .i64 0, .int .i64 0, .int .i64 0, .bool false] 30))) := Lib.hid (StS.start hz hu hap)
  have Hok := Lib.hid hok
  have Hrk := Lib.hid hrk
  have Hlo := Lib.hid hlo
  clear hz hu hap hok hrk hlo
  go_enter Try.func9, Try.ntmps9
  go_upto_region 1 with fail
  generalize ((w.alloc (Obj.cells (rfA r (.slice a r.zs.length cap)) 30)).alloc (Obj.cells #[.int .i64 4, .int .i64 x, .int .i64 y] 32)).alloc (Obj.cells #[.slice none 0 0, .int .i64 0, .int .i64 0, .int .i64 0, .bool false] 30) = w0 at *
  have c10 : w0.cell? ⟨w.heap.size + 1, 0, none⟩ = some (.int .i64 4) := (HS.out.x1.cell 0).trans rfl
  have c11 : w0.cell? ⟨w.heap.size + 1, 1, none⟩ = some (.int .i64 x) := (HS.out.x1.cell 1).trans rfl
  have hl0 : lo ≤ w0.heap.size := by have := HS.out.x2.lt; have := Hlo.out; omega
  go_wp2_with (first | (refine wpl_load rfl _ rfl (w.heap.size) rfl _ _ _ (HS.out.x0) Try.underlying30 rfl Try.infoRf ?_; go_frame))
  refine (rfn HS.out.own).mono ?_
  rintro e w2 ⟨u', rfl, ho, hf, hb⟩
  obtain ⟨a', cap', rfl⟩ := own_slice ho
  have HS2 := Lib.hid (HS.out.ret hb ho hf)
  clear ho hf hb
  go_upto_region 15 with (refine wpl_store rfl _ _ rfl (w2.heap.size) (rfA (rnR r) (.slice a' (rnR r).zs.length cap')) rfl rfl _ _ (Blk.new w2 30 _) Try.infoRf rfl (rfA_one _ _ _ _) ?_; intro w3 hSy hKy; have HSy := Lib.hid hSy; have HS3 := Lib.hid ((HS2.out.below (below_alloc w2 _)).keep (Blk.new w2 30 _) (by have := HS2.out.x2.lt; omega) hKy); clear hSy hKy; go_frame)
  have Hne : Hid (∀ i, ZF A v i → w2.heap.size ≠ i) := Lib.hid (fun i hi e => by have := HS2.out.z.lt hi; omega)
  have hgne : w2.heap.size ≠ w.heap.size + 2 := by have := HS2.out.x2.lt; omega
  have hl3 : lo ≤ w3.heap.size := by have := HS3.out.x2.lt; have := Hlo.out; omega
  refine wp_region_held (S := fun w' => Kept (fun k => ZF A v k ∨ k = w.heap.size + 2) w3 w') (by kernel_rfl) ?_
  change wpAnyH _ _ _ _ _ _ _ _ (World.drew _)
  have hS : Kept (fun k => ZF A v k ∨ k = w.heap.size + 2) w3 w3.drew := (Kept.refl _ _).drew
  have hBd : Below w3.heap.size w3 w3.drew := (Below.refl _ _).drew
  refine takeH hS (i := 0) (d := 96) (v := .agg (rfA (rnR r) (.slice a' (rnR r).zs.length cap'))) rfl rfl (by kernel_rfl) (by kernel_rfl) (by kernel_rfl) (fun _ _ _ h => h) (Or.inl ⟨by kernel_rfl, fun w' hw' => by exact exec_load _ rfl (w2.heap.size) rfl (HSy.out.kept hw' (fun h => h.elim (fun h => Hne.out _ h rfl) hgne)) Try.underlying30 rfl Try.infoRf⟩) ?_
  refine takeH hS (i := 1) (d := 97) (v := .pointer (some ⟨A, 0, none⟩)) rfl rfl (by kernel_rfl) (by kernel_rfl) (by kernel_rfl) (fun _ _ _ h => h) (Or.inl ⟨by kernel_rfl, fun w' hw' => by kernel_rfl⟩) ?_
  try go_frame
  refine takeH hS (i := 3) (d := 99) (v := .int .i64 (rfF r)) rfl rfl (by kernel_rfl) (by kernel_rfl) (by kernel_rfl) (fun _ _ _ h => h) (Or.inl ⟨by kernel_rfl, fun w' hw' => by kernel_rfl⟩) ?_
  try go_frame
  refine nextH (i := 2) rfl (by kernel_rfl) (by kernel_rfl) (fun K' hK => ?_)
  go_wp2_with fail
  have HSd := Lib.hid (HS3.out.below hBd)
  refine (zfn HSd.out.z).mono ?_
  rintro en w4 ⟨rfl, hT⟩
  obtain ⟨v1, hS1⟩ := HSd.out.zto hT
  have HS4 := Lib.hid hS1
  have hS4 : Kept (fun k => ZF A v k ∨ k = w.heap.size + 2) w3 w4 := by
    obtain ⟨_, _, hk, _⟩ := hT
    exact hS.andThen hk (fun _ _ h => h) (fun _ _ h => .inl h)
  refine hK.out _ _ ⟨hS4, ?_⟩
  clear hK K' hT hS1 hBd hS
  refine takeH hS4 (i := 4) (d := 100) (v := .bool (refI z == rfF r)) rfl rfl (by kernel_rfl) (by kernel_rfl) (by kernel_rfl) (fun _ _ _ h => h) (Or.inl ⟨by kernel_rfl, fun w' hw' => by exact exec_eql _ _ rfl (refI z) (rfF r) rfl rfl _ (by rfl) rfl⟩) ?_
  try go_frame
  refine nextH (i := 5) rfl (by kernel_rfl) (by kernel_rfl) (fun K' hK => ?_)
  refine wpo_store _ _ rfl (w.heap.size + 2) (rfA (rnR r) (.slice a' (rnR r).zs.length cap')) rfl rfl _ _ HS4.out.x2 Try.infoRf rfl (rfA_one _ _ _ _) ?_
  intro w5 hSg hKg
  have HSg := Lib.hid hSg
  have HKg := Lib.hid hKg
  have hS5 : Kept (fun k => ZF A v k ∨ k = w.heap.size + 2) w3 w5 := hS4.andThen hKg (fun _ _ h => h) (fun _ _ h => .inr h)
  refine hK.out _ _ ⟨hS5, ?_⟩
  clear hK K' hSg hKg hS4
  try go_frame
  refine takeH hS5 (i := 6) (d := 7) (v := .bool (refI z == rfF r)) rfl rfl (by kernel_rfl) (by kernel_rfl) (by kernel_rfl) (fun _ _ _ h => h) (Or.inl ⟨by kernel_rfl, fun w' hw' => by kernel_rfl⟩) ?_
  refine wpAnyH_done (by kernel_rfl) ?_ _
  try go_frame
  go_wp2_with fail
  have HF := Lib.hid (HS4.out.out HSg.out HKg.out)
  exact bodyPost_ret (v := .tuple #[.agg (rfA (rnR r) (.slice a' (rnR r).zs.length cap')), .bool (refI z == rfF r)]) (results_cell_slot Try.results9 _ _ (w.heap.size + 2) 30 _ _ _ rfl rfl HSg.out Try.underlying30 rfl Try.infoRf) rfl ⟨_, _, rfl, HF.out.z, HF.out.own, HF.out.ap, HF.out.k, HF.out.fr⟩

set_option maxRecDepth 100000 in
set_option maxHeartbeats 2000000 in
theorem wstep5 {lo A : Nat} {v u : Value} {z : ZoR} {r : RfR} {w : World} (x y : Int) (hz : ZAt 56 3 lo w A v z) (hok : ZOk z) (hu : w.ownsRow lo 3 1 u r.zs.length (ivals r.zs)) (hrk : ROk r) (hap : ∀ g, u.ownBlock = some g → v.ownBlock ≠ some g) (hlo : lo ≤ w.heap.size) : Calls Try.prog 9 #[.pointer (some ⟨A, 0, none⟩), .agg (rfA r u), .agg #[.int .i64 5, .int .i64 x, .int .i64 y]] w fun e w' => STo lo A w v u (flZ z) (rlR r) (true) e w' := by
  obtain ⟨a, cap, rfl⟩ := own_slice hu
  have HS : Hid (StS lo A w v (rfA r (.slice a r.zs.length cap)) #[.int .i64 5, .int .i64 x, .int .i64 y] #[.slice none 0 0, .int .i64 0, .int .i64 0, .int .i64 0, .bool false] v z (.slice a r.zs.length cap) r (((w.alloc (Obj.cells (rfA r (.slice a r.zs.length cap)) 30)).alloc (Obj.cells #[.int .i64 5, .int .i64 x, .int .i64 y] 32)).alloc (Obj.cells #[.slice none 0 0, .int .i64 0, .int .i64 0, .int .i64 0, .bool false] 30))) := Lib.hid (StS.start hz hu hap)
  have Hok := Lib.hid hok
  have Hrk := Lib.hid hrk
  have Hlo := Lib.hid hlo
  clear hz hu hap hok hrk hlo
  go_enter Try.func9, Try.ntmps9
  go_upto_region 1 with fail
  generalize ((w.alloc (Obj.cells (rfA r (.slice a r.zs.length cap)) 30)).alloc (Obj.cells #[.int .i64 5, .int .i64 x, .int .i64 y] 32)).alloc (Obj.cells #[.slice none 0 0, .int .i64 0, .int .i64 0, .int .i64 0, .bool false] 30) = w0 at *
  have c10 : w0.cell? ⟨w.heap.size + 1, 0, none⟩ = some (.int .i64 5) := (HS.out.x1.cell 0).trans rfl
  have c11 : w0.cell? ⟨w.heap.size + 1, 1, none⟩ = some (.int .i64 x) := (HS.out.x1.cell 1).trans rfl
  have hl0 : lo ≤ w0.heap.size := by have := HS.out.x2.lt; have := Hlo.out; omega
  go_wp2_with fail
  refine (zfl HS.out.z).mono ?_
  rintro e w1 ⟨rfl, hT⟩
  obtain ⟨v1, hS1⟩ := HS.out.zto hT
  have HS1 := Lib.hid hS1
  have hl1 : lo ≤ w1.heap.size := by have := HS1.out.x2.lt; have := Hlo.out; omega
  clear hT hS1
  go_wp2_with (first | (refine wpl_load rfl _ rfl (w.heap.size) rfl _ _ _ (HS1.out.x0) Try.underlying30 rfl Try.infoRf ?_; go_frame))
  refine (rfl_ HS1.out.own).mono ?_
  rintro e w2 ⟨u', rfl, ho, hf, hb⟩
  obtain ⟨a', cap', rfl⟩ := own_slice ho
  have HS2 := Lib.hid (HS1.out.ret hb ho hf)
  clear ho hf hb
  go_wp2_with (first | (refine wpl_store rfl _ _ rfl (w.heap.size + 2) (rfA (rlR r) (.slice a' (rlR r).zs.length cap')) rfl rfl _ _ HS2.out.x2 Try.infoRf rfl (rfA_one _ _ _ _) ?_; intro w4 hSg hKg; have HSg := Lib.hid hSg; have HKg := Lib.hid hKg; clear hSg hKg; go_frame))
  have HF := Lib.hid (HS2.out.out HSg.out HKg.out)
  exact bodyPost_ret (v := .tuple #[.agg (rfA (rlR r) (.slice a' (rlR r).zs.length cap')), .bool (true)]) (results_cell_slot Try.results9 _ _ (w.heap.size + 2) 30 _ _ _ rfl rfl HSg.out Try.underlying30 rfl Try.infoRf) rfl ⟨_, _, rfl, HF.out.z, HF.out.own, HF.out.ap, HF.out.k, HF.out.fr⟩

set_option maxRecDepth 100000 in
set_option maxHeartbeats 2000000 in
theorem wstep6 {lo A : Nat} {v u : Value} {z : ZoR} {r : RfR} {w : World} (x y : Int) (hz : ZAt 56 3 lo w A v z) (hok : ZOk z) (hu : w.ownsRow lo 3 1 u r.zs.length (ivals r.zs)) (hrk : ROk r) (hap : ∀ g, u.ownBlock = some g → v.ownBlock ≠ some g) (hlo : lo ≤ w.heap.size) : Calls Try.prog 9 #[.pointer (some ⟨A, 0, none⟩), .agg (rfA r u), .agg #[.int .i64 6, .int .i64 x, .int .i64 y]] w fun e w' => STo lo A w v u (crZ z x) (rcR r x) (true) e w' := by
  obtain ⟨a, cap, rfl⟩ := own_slice hu
  have HS : Hid (StS lo A w v (rfA r (.slice a r.zs.length cap)) #[.int .i64 6, .int .i64 x, .int .i64 y] #[.slice none 0 0, .int .i64 0, .int .i64 0, .int .i64 0, .bool false] v z (.slice a r.zs.length cap) r (((w.alloc (Obj.cells (rfA r (.slice a r.zs.length cap)) 30)).alloc (Obj.cells #[.int .i64 6, .int .i64 x, .int .i64 y] 32)).alloc (Obj.cells #[.slice none 0 0, .int .i64 0, .int .i64 0, .int .i64 0, .bool false] 30))) := Lib.hid (StS.start hz hu hap)
  have Hok := Lib.hid hok
  have Hrk := Lib.hid hrk
  have Hlo := Lib.hid hlo
  clear hz hu hap hok hrk hlo
  go_enter Try.func9, Try.ntmps9
  go_upto_region 1 with fail
  generalize ((w.alloc (Obj.cells (rfA r (.slice a r.zs.length cap)) 30)).alloc (Obj.cells #[.int .i64 6, .int .i64 x, .int .i64 y] 32)).alloc (Obj.cells #[.slice none 0 0, .int .i64 0, .int .i64 0, .int .i64 0, .bool false] 30) = w0 at *
  have c10 : w0.cell? ⟨w.heap.size + 1, 0, none⟩ = some (.int .i64 6) := (HS.out.x1.cell 0).trans rfl
  have c11 : w0.cell? ⟨w.heap.size + 1, 1, none⟩ = some (.int .i64 x) := (HS.out.x1.cell 1).trans rfl
  have hl0 : lo ≤ w0.heap.size := by have := HS.out.x2.lt; have := Hlo.out; omega
  go_wp2_with fail
  refine (zcr x HS.out.z Hok.out hl0).mono ?_
  rintro e w1 ⟨rfl, hT⟩
  obtain ⟨v1, hS1⟩ := HS.out.zto hT
  have HS1 := Lib.hid hS1
  have hl1 : lo ≤ w1.heap.size := by have := HS1.out.x2.lt; have := Hlo.out; omega
  clear hT hS1
  have c11 : w1.cell? ⟨w.heap.size + 1, 1, none⟩ = some (.int .i64 x) := (HS1.out.x1.cell 1).trans rfl
  go_wp2_with (first | (refine wpl_load rfl _ rfl (w.heap.size) rfl _ _ _ (HS1.out.x0) Try.underlying30 rfl Try.infoRf ?_; go_frame))
  refine (rcr x HS1.out.own Hrk.out hl1).mono ?_
  rintro e w2 ⟨u', rfl, ho, hf, hb⟩
  obtain ⟨a', cap', rfl⟩ := own_slice ho
  have HS2 := Lib.hid (HS1.out.ret hb ho hf)
  clear ho hf hb
  go_wp2_with (first | (refine wpl_store rfl _ _ rfl (w.heap.size + 2) (rfA (rcR r x) (.slice a' (rcR r x).zs.length cap')) rfl rfl _ _ HS2.out.x2 Try.infoRf rfl (rfA_one _ _ _ _) ?_; intro w4 hSg hKg; have HSg := Lib.hid hSg; have HKg := Lib.hid hKg; clear hSg hKg; go_frame))
  have HF := Lib.hid (HS2.out.out HSg.out HKg.out)
  exact bodyPost_ret (v := .tuple #[.agg (rfA (rcR r x) (.slice a' (rcR r x).zs.length cap')), .bool (true)]) (results_cell_slot Try.results9 _ _ (w.heap.size + 2) 30 _ _ _ rfl rfl HSg.out Try.underlying30 rfl Try.infoRf) rfl ⟨_, _, rfl, HF.out.z, HF.out.own, HF.out.ap, HF.out.k, HF.out.fr⟩

set_option maxRecDepth 100000 in
set_option maxHeartbeats 2000000 in
theorem wstep7 {lo A : Nat} {v u : Value} {z : ZoR} {r : RfR} {w : World} (x y : Int) (hz : ZAt 56 3 lo w A v z) (hok : ZOk z) (hu : w.ownsRow lo 3 1 u r.zs.length (ivals r.zs)) (hrk : ROk r) (hap : ∀ g, u.ownBlock = some g → v.ownBlock ≠ some g) (hlo : lo ≤ w.heap.size) : Calls Try.prog 9 #[.pointer (some ⟨A, 0, none⟩), .agg (rfA r u), .agg #[.int .i64 7, .int .i64 x, .int .i64 y]] w fun e w' => STo lo A w v u (faZ z x) (rfR r x) (true) e w' := by
  obtain ⟨a, cap, rfl⟩ := own_slice hu
  have HS : Hid (StS lo A w v (rfA r (.slice a r.zs.length cap)) #[.int .i64 7, .int .i64 x, .int .i64 y] #[.slice none 0 0, .int .i64 0, .int .i64 0, .int .i64 0, .bool false] v z (.slice a r.zs.length cap) r (((w.alloc (Obj.cells (rfA r (.slice a r.zs.length cap)) 30)).alloc (Obj.cells #[.int .i64 7, .int .i64 x, .int .i64 y] 32)).alloc (Obj.cells #[.slice none 0 0, .int .i64 0, .int .i64 0, .int .i64 0, .bool false] 30))) := Lib.hid (StS.start hz hu hap)
  have Hok := Lib.hid hok
  have Hrk := Lib.hid hrk
  have Hlo := Lib.hid hlo
  clear hz hu hap hok hrk hlo
  go_enter Try.func9, Try.ntmps9
  go_upto_region 1 with fail
  generalize ((w.alloc (Obj.cells (rfA r (.slice a r.zs.length cap)) 30)).alloc (Obj.cells #[.int .i64 7, .int .i64 x, .int .i64 y] 32)).alloc (Obj.cells #[.slice none 0 0, .int .i64 0, .int .i64 0, .int .i64 0, .bool false] 30) = w0 at *
  have c10 : w0.cell? ⟨w.heap.size + 1, 0, none⟩ = some (.int .i64 7) := (HS.out.x1.cell 0).trans rfl
  have c11 : w0.cell? ⟨w.heap.size + 1, 1, none⟩ = some (.int .i64 x) := (HS.out.x1.cell 1).trans rfl
  have hl0 : lo ≤ w0.heap.size := by have := HS.out.x2.lt; have := Hlo.out; omega
  go_wp2_with fail
  refine (zfa x HS.out.z).mono ?_
  rintro e w1 ⟨rfl, hT⟩
  obtain ⟨v1, hS1⟩ := HS.out.zto hT
  have HS1 := Lib.hid hS1
  have hl1 : lo ≤ w1.heap.size := by have := HS1.out.x2.lt; have := Hlo.out; omega
  clear hT hS1
  have c11 : w1.cell? ⟨w.heap.size + 1, 1, none⟩ = some (.int .i64 x) := (HS1.out.x1.cell 1).trans rfl
  go_wp2_with (first | (refine wpl_load rfl _ rfl (w.heap.size) rfl _ _ _ (HS1.out.x0) Try.underlying30 rfl Try.infoRf ?_; go_frame))
  refine (rfa x HS1.out.own).mono ?_
  rintro e w2 ⟨u', rfl, ho, hf, hb⟩
  obtain ⟨a', cap', rfl⟩ := own_slice ho
  have HS2 := Lib.hid (HS1.out.ret hb ho hf)
  clear ho hf hb
  go_wp2_with (first | (refine wpl_store rfl _ _ rfl (w.heap.size + 2) (rfA (rfR r x) (.slice a' (rfR r x).zs.length cap')) rfl rfl _ _ HS2.out.x2 Try.infoRf rfl (rfA_one _ _ _ _) ?_; intro w4 hSg hKg; have HSg := Lib.hid hSg; have HKg := Lib.hid hKg; clear hSg hKg; go_frame))
  have HF := Lib.hid (HS2.out.out HSg.out HKg.out)
  exact bodyPost_ret (v := .tuple #[.agg (rfA (rfR r x) (.slice a' (rfR r x).zs.length cap')), .bool (true)]) (results_cell_slot Try.results9 _ _ (w.heap.size + 2) 30 _ _ _ rfl rfl HSg.out Try.underlying30 rfl Try.infoRf) rfl ⟨_, _, rfl, HF.out.z, HF.out.own, HF.out.ap, HF.out.k, HF.out.fr⟩

set_option maxRecDepth 100000 in
set_option maxHeartbeats 2000000 in
theorem wstep8 {lo A : Nat} {v u : Value} {z : ZoR} {r : RfR} {w : World} {zs : List Int} (x y : Int) (hzs : z.xs = ivals zs) (hz : ZAt 56 3 lo w A v z) (hok : ZOk z) (hu : w.ownsRow lo 3 1 u r.zs.length (ivals r.zs)) (hrk : ROk r) (hap : ∀ g, u.ownBlock = some g → v.ownBlock ≠ some g) (hlo : lo ≤ w.heap.size) : Calls Try.prog 9 #[.pointer (some ⟨A, 0, none⟩), .agg (rfA r u), .agg #[.int .i64 8, .int .i64 x, .int .i64 y]] w fun e w' => STo lo A w v u (chZ z zs x y) (rhR r x y) (chE z x == rhE r x) e w' := by
  have Hzs := Lib.hid hzs
  clear hzs
  have hmf : ∀ (fn : Fn) (first cap : Array Value) (w : World), (Instr.makeFunc fn first cap).run Try.prog w = .ok (.func fn first cap) w := fun _ _ _ _ => rfl
  obtain ⟨a, cap, rfl⟩ := own_slice hu
  have HS : Hid (StS lo A w v (rfA r (.slice a r.zs.length cap)) #[.int .i64 8, .int .i64 x, .int .i64 y] #[.slice none 0 0, .int .i64 0, .int .i64 0, .int .i64 0, .bool false] v z (.slice a r.zs.length cap) r (((w.alloc (Obj.cells (rfA r (.slice a r.zs.length cap)) 30)).alloc (Obj.cells #[.int .i64 8, .int .i64 x, .int .i64 y] 32)).alloc (Obj.cells #[.slice none 0 0, .int .i64 0, .int .i64 0, .int .i64 0, .bool false] 30))) := Lib.hid (StS.start hz hu hap)
  have Hok := Lib.hid hok
  have Hrk := Lib.hid hrk
  have Hlo := Lib.hid hlo
  clear hz hu hap hok hrk hlo
  go_enter Try.func9, Try.ntmps9
  go_upto_region 1 with fail
  generalize ((w.alloc (Obj.cells (rfA r (.slice a r.zs.length cap)) 30)).alloc (Obj.cells #[.int .i64 8, .int .i64 x, .int .i64 y] 32)).alloc (Obj.cells #[.slice none 0 0, .int .i64 0, .int .i64 0, .int .i64 0, .bool false] 30) = w0 at *
  have c10 : w0.cell? ⟨w.heap.size + 1, 0, none⟩ = some (.int .i64 8) := (HS.out.x1.cell 0).trans rfl
  have c11 : w0.cell? ⟨w.heap.size + 1, 1, none⟩ = some (.int .i64 x) := (HS.out.x1.cell 1).trans rfl
  have hl0 : lo ≤ w0.heap.size := by have := HS.out.x2.lt; have := Hlo.out; omega
  go_wp2_with fail
  refine (zch x y _ 8 x zs HS.out.z Hok.out Hzs.out HS.out.x1).mono ?_
  rintro e w1 ⟨rfl, hT⟩
  obtain ⟨v1, hS1⟩ := HS.out.zto hT
  have HS1 := Lib.hid hS1
  have hl1 : lo ≤ w1.heap.size := by have := HS1.out.x2.lt; have := Hlo.out; omega
  clear hT hS1
  have c11 : w1.cell? ⟨w.heap.size + 1, 1, none⟩ = some (.int .i64 x) := (HS1.out.x1.cell 1).trans rfl
  have c12 : w1.cell? ⟨w.heap.size + 1, 2, none⟩ = some (.int .i64 y) := (HS1.out.x1.cell 2).trans rfl
  go_wp2_with (first | (refine wpl_load rfl _ rfl (w.heap.size) rfl _ _ _ (HS1.out.x0) Try.underlying30 rfl Try.infoRf ?_; go_frame))
  refine (rch x y HS1.out.own Hrk.out hl1).mono ?_
  rintro e w2 ⟨u', rfl, ho, hf, hb⟩
  obtain ⟨a', cap', rfl⟩ := own_slice ho
  have HS2 := Lib.hid (HS1.out.ret hb ho hf)
  clear ho hf hb
  go_upto_region 28 with (refine wpl_store rfl _ _ rfl (w2.heap.size) (rfA (rhR r x y) (.slice a' (rhR r x y).zs.length cap')) rfl rfl _ _ (Blk.new w2 30 _) Try.infoRf rfl (rfA_one _ _ _ _) ?_; intro w3 hSy hKy; have HSy := Lib.hid hSy; have HS3 := Lib.hid ((HS2.out.below (below_alloc w2 _)).keep (Blk.new w2 30 _) (by have := HS2.out.x2.lt; omega) hKy); clear hSy hKy; go_frame)
  go_wp2_with (first | (refine wpl_load rfl _ rfl (w2.heap.size) rfl _ _ _ (HSy.out) Try.underlying30 rfl Try.infoRf ?_; go_frame) | (refine wpl_store rfl _ _ rfl (w.heap.size + 2) (rfA (rhR r x y) (.slice a' (rhR r x y).zs.length cap')) rfl rfl _ _ HS3.out.x2 Try.infoRf rfl (rfA_one _ _ _ _) ?_; intro w4 hSg hKg; have HSg := Lib.hid hSg; have HKg := Lib.hid hKg; clear hSg hKg; go_frame))
  have HF := Lib.hid (HS3.out.out HSg.out HKg.out)
  exact bodyPost_ret (v := .tuple #[.agg (rfA (rhR r x y) (.slice a' (rhR r x y).zs.length cap')), .bool (chE z x == rhE r x)]) (results_cell_slot Try.results9 _ _ (w.heap.size + 2) 30 _ _ _ rfl rfl HSg.out Try.underlying30 rfl Try.infoRf) rfl ⟨_, _, rfl, HF.out.z, HF.out.own, HF.out.ap, HF.out.k, HF.out.fr⟩

set_option maxRecDepth 100000 in
set_option maxHeartbeats 2000000 in
theorem wstep0 {lo A : Nat} {v u : Value} {z : ZoR} {r : RfR} {w : World} (k : Int) (x y : Int) (h : ∀ i : Int, 1 ≤ i → i ≤ 8 → k ≠ i) (hz : ZAt 56 3 lo w A v z) (hok : ZOk z) (hu : w.ownsRow lo 3 1 u r.zs.length (ivals r.zs)) (hrk : ROk r) (hap : ∀ g, u.ownBlock = some g → v.ownBlock ≠ some g) (hlo : lo ≤ w.heap.size) : Calls Try.prog 9 #[.pointer (some ⟨A, 0, none⟩), .agg (rfA r u), .agg #[.int .i64 k, .int .i64 x, .int .i64 y]] w fun e w' => STo lo A w v u (z) (r) (true) e w' := by
  have d1 : (k == 1) = false := by simpa using h 1 (by decide) (by decide)
  have d2 : (k == 2) = false := by simpa using h 2 (by decide) (by decide)
  have d3 : (k == 3) = false := by simpa using h 3 (by decide) (by decide)
  have d4 : (k == 4) = false := by simpa using h 4 (by decide) (by decide)
  have d5 : (k == 5) = false := by simpa using h 5 (by decide) (by decide)
  have d6 : (k == 6) = false := by simpa using h 6 (by decide) (by decide)
  have d7 : (k == 7) = false := by simpa using h 7 (by decide) (by decide)
  have d8 : (k == 8) = false := by simpa using h 8 (by decide) (by decide)
  clear h
  obtain ⟨a, cap, rfl⟩ := own_slice hu
  have HS : Hid (StS lo A w v (rfA r (.slice a r.zs.length cap)) #[.int .i64 k, .int .i64 x, .int .i64 y] #[.slice none 0 0, .int .i64 0, .int .i64 0, .int .i64 0, .bool false] v z (.slice a r.zs.length cap) r (((w.alloc (Obj.cells (rfA r (.slice a r.zs.length cap)) 30)).alloc (Obj.cells #[.int .i64 k, .int .i64 x, .int .i64 y] 32)).alloc (Obj.cells #[.slice none 0 0, .int .i64 0, .int .i64 0, .int .i64 0, .bool false] 30))) := Lib.hid (StS.start hz hu hap)
  have Hok := Lib.hid hok
  have Hrk := Lib.hid hrk
  have Hlo := Lib.hid hlo
  clear hz hu hap hok hrk hlo
  go_enter Try.func9, Try.ntmps9
  go_upto_region 1 with fail
  generalize ((w.alloc (Obj.cells (rfA r (.slice a r.zs.length cap)) 30)).alloc (Obj.cells #[.int .i64 k, .int .i64 x, .int .i64 y] 32)).alloc (Obj.cells #[.slice none 0 0, .int .i64 0, .int .i64 0, .int .i64 0, .bool false] 30) = w0 at *
  have c10 : w0.cell? ⟨w.heap.size + 1, 0, none⟩ = some (.int .i64 k) := (HS.out.x1.cell 0).trans rfl
  have c11 : w0.cell? ⟨w.heap.size + 1, 1, none⟩ = some (.int .i64 x) := (HS.out.x1.cell 1).trans rfl
  have hl0 : lo ≤ w0.heap.size := by have := HS.out.x2.lt; have := Hlo.out; omega
  go_wp2_with (first | (refine wpl_load rfl _ rfl (w.heap.size) rfl _ _ _ (HS.out.x0) Try.underlying30 rfl Try.infoRf ?_; go_frame) | (refine wpl_store rfl _ _ rfl (w.heap.size + 2) (rfA r (.slice a r.zs.length cap)) rfl rfl _ _ HS.out.x2 Try.infoRf rfl (rfA_one _ _ _ _) ?_; intro w4 hSg hKg; have HSg := Lib.hid hSg; have HKg := Lib.hid hKg; clear hSg hKg; go_frame))
  have HF := Lib.hid (HS.out.out HSg.out HKg.out)
  exact bodyPost_ret (v := .tuple #[.agg (rfA r (.slice a r.zs.length cap)), .bool (true)]) (results_cell_slot Try.results9 _ _ (w.heap.size + 2) 30 _ _ _ rfl rfl HSg.out Try.underlying30 rfl Try.infoRf) rfl ⟨_, _, rfl, HF.out.z, HF.out.own, HF.out.ap, HF.out.k, HF.out.fr⟩

def stZ (z : ZoR) (zs : List Int) (k x y : Int) : ZoR := if k = 1 then apZ z (.int .i64 x) else if k = 3 then rsZ z else if k = 4 then fnZ z else if k = 5 then flZ z else if k = 6 then crZ z x else if k = 7 then faZ z x else if k = 8 then chZ z zs x y else z
def stR (r : RfR) (k x y : Int) : RfR := if k = 1 then raR r x else if k = 3 then rsR r else if k = 4 then rnR r else if k = 5 then rlR r else if k = 6 then rcR r x else if k = 7 then rfR r x else if k = 8 then rhR r x y else r
def stB (z : ZoR) (zs : List Int) (r : RfR) (k x y : Int) : Bool := if k = 1 then (apO z == raO r) && (apE z == raE r) else if k = 2 then (rdN z zs x == rrV r x) && (rdE z x == rrE r x) else if k = 3 then refI z == rfF r else if k = 4 then refI z == rfF r else if k = 8 then chE z x == rhE r x else true

theorem wstep {lo A : Nat} {v u : Value} {z : ZoR} {r : RfR} {w : World} {zs : List Int} (k x y : Int) (hzs : z.xs = ivals zs) (hz : ZAt 56 3 lo w A v z) (hok : ZOk z) (hu : w.ownsRow lo 3 1 u r.zs.length (ivals r.zs)) (hrk : ROk r) (hap : ∀ g, u.ownBlock = some g → v.ownBlock ≠ some g) (hlo : lo ≤ w.heap.size) : Calls Try.prog 9 #[.pointer (some ⟨A, 0, none⟩), .agg (rfA r u), .agg #[.int .i64 k, .int .i64 x, .int .i64 y]] w fun e w' => STo lo A w v u (stZ z zs k x y) (stR r k x y) (stB z zs r k x y) e w' := by
  by_cases h1 : k = 1
  · subst h1; exact wstep1 x y hz hok hu hrk hap hlo
  by_cases h2 : k = 2
  · subst h2; exact wstep2 x y hzs hz hok hu hrk hap hlo
  by_cases h3 : k = 3
  · subst h3; exact wstep3 x y hz hok hu hrk hap hlo
  by_cases h4 : k = 4
  · subst h4; exact wstep4 x y hz hok hu hrk hap hlo
  by_cases h5 : k = 5
  · subst h5; exact wstep5 x y hz hok hu hrk hap hlo
  by_cases h6 : k = 6
  · subst h6; exact wstep6 x y hz hok hu hrk hap hlo
  by_cases h7 : k = 7
  · subst h7; exact wstep7 x y hz hok hu hrk hap hlo
  by_cases h8 : k = 8
  · subst h8; exact wstep8 x y hzs hz hok hu hrk hap hlo
  have h := wstep0 k x y (fun i h1' h2' e => by subst e; omega) hz hok hu hrk hap hlo
  rw [show stZ z zs k x y = z by unfold stZ; simp [h1, h3, h4, h5, h6, h7, h8], show stR r k x y = r by unfold stR; simp [h1, h3, h4, h5, h6, h7, h8], show stB z zs r k x y = true by unfold stB; simp [h1, h2, h3, h4, h8]]
  exact h

end Go.Proofs.Ytflcfhjpmajggaa
