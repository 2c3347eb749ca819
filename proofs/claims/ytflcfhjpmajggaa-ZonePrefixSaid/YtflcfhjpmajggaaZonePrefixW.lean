/-
  The walk of ZonePrefix.
-/
import Derived.Test.YtflcfhjpmajggaaZoneD
import Derived.Test.YtflcfhjpmajggaaZoneI
import Derived.Deep.CutBlock
import Derived.Deep.CutRange
namespace Go.Proofs.Ytflcfhjpmajggaa
open Go.RowKit Go.Shelf
attribute [local go_sem] Oper.semAt_some
set_option linter.unusedVariables false
set_option linter.unnecessarySimpa false
set_option linter.unusedSimpArgs false

/-- What lies in memory: the result at block n, what was appended (a slice) at block wb, the zone at block A. -/
structure PxI (w : World) (A wb : Nat) (v uw : Value) (z : ZoR) (zs : List Int) (W : World) : Prop where
  R : Blk W w.heap.size 4 #[.bool false]
  Wb : Blk W wb 28 #[uw]
  z : ZAt 56 3 w.heap.size W A v z
  own : W.ownsRow w.heap.size 3 1 uw zs.length (ivals zs)
  ap : ∀ g, uw.ownBlock = some g → v.ownBlock ≠ some g
  B : Below w.heap.size w W
  le : w.heap.size + 1 ≤ wb
section
variable {w : World} {A wb : Nat} {v uw v' uw' : Value} {z z' : ZoR} {zs zs' : List Int} {W W' : World}
theorem PxI.below (h : PxI w A wb v uw z zs W) (hb : Below W.heap.size W W') : PxI w A wb v uw z zs W' :=
  ⟨h.R.below hb h.R.lt, h.Wb.below hb h.Wb.lt, h.z.below hb, own_below h.own hb, h.ap, bthen' h.B hb, h.le⟩
theorem PxI.lo (h : PxI w A wb v uw z zs W) : w.heap.size ≤ W.heap.size := h.B.size
theorem PxI.zto (h : PxI w A wb v uw z zs W) (hT : ZTo 56 3 w.heap.size W A v z' W') : ∃ v', PxI w A wb v' uw z' zs W' ∧ KeepsOthers W W' := by
  have b0 := hT.blk h.z h.R (by decide) (by decide)
  have b1 := hT.blk h.z h.Wb (by decide) (by decide)
  obtain ⟨v', h1, h2, h3, h4⟩ := hT.row h.z h.own (by decide) h.ap
  exact ⟨v', ⟨b0, b1, h1, h3, h4, h.z.bel h.B (Nat.le_refl _) h2, h.le⟩, keepsOthers_zf h.z h2⟩
/-- The slice is another one. -/
theorem PxI.setW (h : PxI w A wb v uw z zs W) (hk : Kept (· = wb) W W') (hb : Blk W' wb 28 #[uw']) (ho : W'.ownsRow w.heap.size 3 1 uw' zs'.length (ivals zs')) (hf : ∀ g, uw'.ownBlock = some g → uw.ownBlock = some g ∨ W.heap.size ≤ g) :
    PxI w A wb v uw' z zs' W' ∧ KeepsOthers W W' := by
  have hle := h.le
  refine ⟨⟨h.R.kept hk (by omega), hb, h.z.kept hk (fun i hi e => ?_), ho, fun g hg e => ?_, bkept h.B (Nat.le_refl _) hk (fun i hi e => by omega), h.le⟩, keepsOthers_kept hk (fun k o e ho => ?_)⟩
  · subst e
    rcases hi with e | e
    · exact Blk.unlike h.Wb h.z.blk (by decide) e
    · exact own_unlike h.z.own h.Wb (by decide) e.symm
  · rcases hf g hg with h1 | h1
    · exact h.ap g h1 e
    · have := h.z.lt (.inr e); omega
  · subst e
    have h1 := h.Wb; unfold Blk at h1; rw [h1] at ho; cases ho; rfl
theorem PxI.ownF {B : Nat} (hB : w.heap.size ≤ B) : OwnFrom (β := List (Nat × Int)) B (fun _ W => PxI w A wb v uw z zs W) := fun s Y Y' row h hg hr =>
  ⟨Own.from (blk_own (β := List (Nat × Int)) _ _ (fun _ => _)) B s Y Y' row h.R hg hr, Own.from (blk_own (β := List (Nat × Int)) _ _ (fun _ => _)) B s Y Y' row h.Wb hg hr,
    ⟨Own.from (blk_own (β := List (Nat × Int)) _ _ (fun _ => _)) B s Y Y' row h.z.blk hg hr, ownFrom_row (fun _ => v) (fun _ => z.xs.length) (fun _ => z.xs) s Y Y' row h.z.own hg hr, h.z.le⟩,
    ownFrom_row (fun _ => uw) (fun _ => zs.length) (fun _ => ivals zs) s Y Y' row h.own hg hr, h.ap, ownFrom_below (β := List (Nat × Int)) (Nat.le_refl _) hB s Y Y' row h.B hg hr, h.le⟩
/-- A cell of ints that was made since is written. -/
theorem PxI.set {m : Nat} (h : PxI w A wb v uw z zs W) (h1 : w.heap.size < m) (h2 : wb ≠ m) (h3 : ∀ i, ZF A v i → i ≠ m) (h4 : ∀ g, uw.ownBlock = some g → g ≠ m) (x : Value) : PxI w A wb v uw z zs (W.setCell ⟨m, 0, none⟩ x) :=
  ⟨h.R.far (by simp; omega) _, h.Wb.far (by simpa using h2) _, h.z.kept ((Kept.refl (· = m) W).setCell (p := ⟨m, 0, none⟩) rfl _) (fun i hi e => h3 i hi e),
    own_same h.own (fun g hg => Below.heap_setCell _ _ _ _ (fun e => h4 g hg e)), h.ap, h.B.setCell (p := ⟨m, 0, none⟩) (by simp; omega) _, h.le⟩

/-- A sector more was appended to what was. -/
theorem PxI.app {W3 : World} {v3 : Value} {x : Int} (h : PxI w A wb v uw z zs W) (hB : Below W.heap.size W W3) (ho : W3.ownsRow w.heap.size 3 1 v3 (zs.length + 1) (ivals zs ++ [.int .i64 x])) (hf : ∀ g, v3.ownBlock = some g → W.heap.size ≤ g) :
    PxI w A wb v v3 z (zs ++ [x]) (W3.setCell ⟨wb, 0, none⟩ v3) ∧ KeepsOthers W (W3.setCell ⟨wb, 0, none⟩ v3) ∧ Kept (· = wb) W (W3.setCell ⟨wb, 0, none⟩ v3) := by
  have hb := h.Wb.below hB h.Wb.lt
  have hk : Kept (· = wb) W (W3.setCell ⟨wb, 0, none⟩ v3) := (Kept.of_below (S := (· = wb)) hB).setCell (p := ⟨wb, 0, none⟩) rfl v3
  have hl : (zs ++ [x]).length = zs.length + 1 := by simp
  have h1 := h.setW (zs' := zs ++ [x]) hk (blk_set1 hb v3) (by
    rw [hl, ivals_append]
    exact own_same ho (fun g hg => Below.heap_setCell _ _ _ _ (fun e => own_unlike ho hb (by decide) (by rw [hg]; exact congrArg some e.symm)))) (fun g hg => .inr (hf g hg))
  exact ⟨h1.1, h1.2, hk⟩
/-- What was appended is cut. -/
theorem PxI.cut {W3 : World} {a : Option Addr} {c n : Nat} (h : PxI w A wb v (.slice a zs.length c) z zs W) (hB : Below W.heap.size W W3) (hn : n ≤ zs.length) :
    PxI w A wb v (.slice a n c) z (zs.take n) (W3.setCell ⟨wb, 0, none⟩ (.slice a n c)) ∧ KeepsOthers W (W3.setCell ⟨wb, 0, none⟩ (.slice a n c)) ∧ Kept (· = wb) W (W3.setCell ⟨wb, 0, none⟩ (.slice a n c)) := by
  have hb := h.Wb.below hB h.Wb.lt
  have hk : Kept (· = wb) W (W3.setCell ⟨wb, 0, none⟩ (.slice a n c)) := (Kept.of_below (S := (· = wb)) hB).setCell (p := ⟨wb, 0, none⟩) rfl _
  have hl : (zs.take n).length = n := by simp; omega
  have ho := own_cut (own_below h.own hB) n hn
  have h1 := h.setW (zs' := zs.take n) hk (blk_set1 hb (.slice a n c)) (by
    rw [hl, ← ivals_take]
    exact own_same ho (fun g hg => Below.heap_setCell _ _ _ _ (fun e => own_unlike ho hb (by decide) (by rw [hg]; exact congrArg some e.symm)))) (fun g hg => .inl (by cases a <;> simpa [Value.ownBlock] using hg))
  exact ⟨h1.1, h1.2, hk⟩
theorem src_blk {W : World} {g : Nat} {E : TypeId} {x : Value} (h : Blk W g E #[x]) : ∀ ad, some (⟨g, 0, none⟩ : Addr) = some ad → ∀ j u, [x][j]? = some u → W.cell? (ad.add j) = some u := by
  intro ad e j u hu
  cases e
  rcases j with _ | j
  · cases hu
    exact h.cell 0
  · simp at hu
/-- One of three. -/
theorem nextH3 {P : Program} {md : Region.Mode} {ops : Array Oper} {Q : Exit → Act → World → Prop} {S : World → Prop} {i k l : Nat} {o o' o'' : Oper} {fuel : Nat} {listed : Array Bool} {a : Act} {w : World} (ho : ops[i]? = some o) (ho' : ops[k]? = some o') (ho'' : ops[l]? = some o'')
    (hr : Region.ready md ops listed = [i, k, l]) (hw : Region.wanted o (yielded ops a.tmps) = true) (hw' : Region.wanted o' (yielded ops a.tmps) = true) (hw'' : Region.wanted o'' (yielded ops a.tmps) = true)
    (h : ∀ K' : Act → World → Prop, Shut (∀ a w, S w ∧ wpAnyH P md ops Q S fuel (listed.setIfInBounds i true) a w → K' a w) → Oper.wp P o a w K' Q)
    (h' : ∀ K' : Act → World → Prop, Shut (∀ a w, S w ∧ wpAnyH P md ops Q S fuel (listed.setIfInBounds k true) a w → K' a w) → Oper.wp P o' a w K' Q)
    (h'' : ∀ K' : Act → World → Prop, Shut (∀ a w, S w ∧ wpAnyH P md ops Q S fuel (listed.setIfInBounds l true) a w → K' a w) → Oper.wp P o'' a w K' Q) : wpAnyH P md ops Q S (fuel + 1) listed a w :=
  wpAnyH_all hr (by simp) (fun j hj => by
    have hj' : j = i ∨ j = k ∨ j = l := by simpa using hj
    rcases hj' with rfl | rfl | rfl
    · exact wpOp_of ho hw h
    · exact wpOp_of ho' hw' h'
    · exact wpOp_of ho'' hw'' h'')

/-- What was appended since, and the zone: at a round's beginning, and behind a step. -/
def PxR (w : World) (A wb : Nat) (ds : List Deferred) (W : World) : Prop :=
  ∃ (v uw : Value) (z : ZoR) (zs : List Int), PxI w A wb v uw z zs W ∧ z.xs = ivals zs ∧ ZOk z ∧ Marks w.heap.size ds W
theorem PxR.mk {ds : List Deferred} (h : PxI w A wb v uw z zs W) (hx : z.xs = ivals zs) (ho : ZOk z) (hm : Marks w.heap.size ds W) : PxR w A wb ds W := ⟨v, uw, z, zs, h, hx, ho, hm⟩

theorem ap_ok {x : Int} (hxs : z.xs = ivals zs) (hok : ZOk z) (h0 : apE z = 0) : (apZ z (.int .i64 x)).xs = ivals (zs ++ [x]) ∧ ZOk (apZ z (.int .i64 x)) := by
  have hr : Rel z ⟨z.size, z.safe, stI z, z.fin, zs⟩ := ⟨hxs, rfl, rfl, rfl, rfl⟩
  have h := (hr.append hok x).2.2
  refine ⟨?_, h.2⟩
  unfold apZ
  rw [if_pos h0]
  show z.xs ++ [Value.int .i64 x] = _
  rw [hxs, ivals_append]; rfl
theorem rel_of (hxs : z.xs = ivals zs) : Rel z ⟨z.size, z.safe, stI z, z.fin, zs⟩ := ⟨hxs, rfl, rfl, rfl, rfl⟩
end

set_option maxRecDepth 100000 in
set_option maxHeartbeats 2000000 in
theorem walkZonePrefix_n (size : Int) (a : Option Addr) (len cap : Nat) (w : World) (h : size < 1 ∨ 64 < size) : Calls Try.prog 4 #[.int .i64 size, .slice a len cap] w fun e w' => e = .returned (.bool true) ∧ Below w.heap.size w w' := by
  have HB0 := Lib.hid (below_alloc w (Obj.cells #[.bool false] 4))
  have HR0 := Lib.hid (Blk.new w 4 #[.bool false])
  refine calls_marks Try.func4 rfl ?_
  simp only [Try.ntmps4, List.size_toArray, List.length_cons, List.length_nil, Nat.reduceAdd, Nat.reduceSub, Array.replicate_succ, Array.replicate_zero, List.push_toArray, List.append_toArray, List.nil_append, List.cons_append]
  go_upto_region 1 with fail
  generalize w.alloc (Obj.cells #[.bool false] 4) = w0 at *
  go_wp2_with fail
  refine (anchor6_any _).mono ?_
  rintro e w1 ⟨rfl, hb⟩
  have HR1 := Lib.hid (HR0.out.below hb HR0.out.lt)
  have HB1 := Lib.hid (bthen' HB0.out hb)
  clear HR0 HB0 hb
  go_wp2_with fail
  refine (znewI_no size _ h).mono ?_
  rintro e w2 ⟨rfl, rfl⟩
  have cR := blk_one HR1.out
  have fR := (HR1.out).frozen 0
  go_wp2_with fail
  exact leave_marks (Marks.nil w.heap.size _) (fun w' hw' => ⟨_, results_cell1 Try.results4 _ _ ⟨w.heap.size, 0, none⟩ (.bool true) rfl (agg_bool _) (blk_one (hw'.same _ _ _ (blk_set1 (HR1.out) (.bool true)))), rfl, ((HB1.out).setCell (p := ⟨w.heap.size, 0, none⟩) (Nat.le_refl _) _).trans hw'.bel⟩)

set_option maxRecDepth 100000 in
set_option maxHeartbeats 2000000 in
theorem walkZonePrefix_l (size : Int) (a : Option Addr) (len cap : Nat) (w : World) (h1 : 1 ≤ size) (h2 : size ≤ 64) (hl : 80 < len) : Calls Try.prog 4 #[.int .i64 size, .slice a len cap] w fun e w' => e = .returned (.bool true) ∧ Below w.heap.size w w' := by
  have dl : decide ((80 : Int) < (len : Int)) = true := decide_eq_true (by omega)
  have HB0 := Lib.hid (below_alloc w (Obj.cells #[.bool false] 4))
  have HR0 := Lib.hid (Blk.new w 4 #[.bool false])
  refine calls_marks Try.func4 rfl ?_
  simp only [Try.ntmps4, List.size_toArray, List.length_cons, List.length_nil, Nat.reduceAdd, Nat.reduceSub, Array.replicate_succ, Array.replicate_zero, List.push_toArray, List.append_toArray, List.nil_append, List.cons_append]
  go_upto_region 1 with fail
  generalize w.alloc (Obj.cells #[.bool false] 4) = w0 at *
  go_wp2_with fail
  refine (anchor6_any _).mono ?_
  rintro e w1 ⟨rfl, hb⟩
  have HR1 := Lib.hid (HR0.out.below hb HR0.out.lt)
  have HB1 := Lib.hid (bthen' HB0.out hb)
  clear HR0 HB0 hb
  go_wp2_with fail
  refine (znewI_ok size _ h1 h2).mono ?_
  rintro e w2 ⟨rfl, rfl⟩
  have HB2 := Lib.hid (bthen' HB1.out (below_alloc w1 (Obj.cells (zoA (zo0 size) (.slice none 0 0)) 56)))
  have HR2 := Lib.hid (HR1.out.alloc (Obj.cells (zoA (zo0 size) (.slice none 0 0)) 56))
  generalize w1.alloc (Obj.cells (zoA (zo0 size) (.slice none 0 0)) 56) = w2 at *
  have cR := blk_one HR2.out
  have fR := (HR2.out).frozen 0
  go_wp2_with fail
  exact leave_marks (Marks.nil w.heap.size _) (fun w' hw' => ⟨_, results_cell1 Try.results4 _ _ ⟨w.heap.size, 0, none⟩ (.bool true) rfl (agg_bool _) (blk_one (hw'.same _ _ _ (blk_set1 (HR2.out) (.bool true)))), rfl, ((HB2.out).setCell (p := ⟨w.heap.size, 0, none⟩) (Nat.le_refl _) _).trans hw'.bel⟩)

/-- A frame by its slots. -/
def frG (g : Nat → Value) : Array Value := ((List.range 148).map g).toArray
theorem frG_of {t : Array Value} (h : t.size = 148) : t = frG (fun i => t.getD i undef) := by
  apply Array.ext'
  apply List.ext_getElem
  · simp [frG, h]
  · intro i h1 h2
    simp only [frG, List.getElem_map, List.getElem_range]
    have h1' : i < t.size := by simpa using h1
    simp [Array.getD, h1']
theorem frG_lit (g : Nat → Value) : frG g = #[g 0, g 1, g 2, g 3, g 4, g 5, g 6, g 7, g 8, g 9, g 10, g 11, g 12, g 13, g 14, g 15, g 16, g 17, g 18, g 19, g 20, g 21, g 22, g 23, g 24, g 25, g 26, g 27, g 28, g 29, g 30, g 31, g 32, g 33, g 34, g 35, g 36, g 37, g 38, g 39, g 40, g 41, g 42, g 43, g 44, g 45, g 46, g 47, g 48, g 49, g 50, g 51, g 52, g 53, g 54, g 55, g 56, g 57, g 58, g 59, g 60, g 61, g 62, g 63, g 64, g 65, g 66, g 67, g 68, g 69, g 70, g 71, g 72, g 73, g 74, g 75, g 76, g 77, g 78, g 79, g 80, g 81, g 82, g 83, g 84, g 85, g 86, g 87, g 88, g 89, g 90, g 91, g 92, g 93, g 94, g 95, g 96, g 97, g 98, g 99, g 100, g 101, g 102, g 103, g 104, g 105, g 106, g 107, g 108, g 109, g 110, g 111, g 112, g 113, g 114, g 115, g 116, g 117, g 118, g 119, g 120, g 121, g 122, g 123, g 124, g 125, g 126, g 127, g 128, g 129, g 130, g 131, g 132, g 133, g 134, g 135, g 136, g 137, g 138, g 139, g 140, g 141, g 142, g 143, g 144, g 145, g 146, g 147] := by kernel_rfl
/-- The slots that stay, at a round's beginning. -/
structure FxP (size : Int) (a : Option Addr) (len cap : Nat) (n A wb : Nat) (k : Nat) (g : Nat → Value) : Prop where
  s0 : g 0 = .int .i64 size
  s1 : g 1 = .slice a len cap
  s2 : g 2 = undef
  s3 : g 3 = undef
  s4 : g 4 = .pointer (some ⟨n, 0, none⟩)
  s5 : g 5 = .pointer (some ⟨A, 0, none⟩)
  s6 : g 6 = .int .i64 0
  s7 : g 7 = .pointer (some ⟨wb, 0, none⟩)
  s8 : g 8 = undef
  s16 : g 16 = .bool true
  s17 : g 17 = .bool false
  s18 : g 18 = .tuple #[.pointer (some ⟨A, 0, none⟩), .int .i64 0]
  s19 : g 19 = .int .i64 size
  s20 : g 20 = .tuple #[.pointer (some ⟨A, 0, none⟩), .int .i64 0]
  s21 : g 21 = .pointer (some ⟨A, 0, none⟩)
  s22 : g 22 = .int .i64 0
  s23 : g 23 = .int .i64 0
  s24 : g 24 = .bool false
  s25 : g 25 = .bool false
  s26 : g 26 = .pointer (some ⟨A, 0, none⟩)
  s27 : g 27 = .bool false
  s28 : g 28 = .bool false
  s29 : g 29 = .bool false
  s30 : g 30 = .slice a len cap
  s31 : g 31 = .int .i64 (len : Nat)
  s32 : g 32 = .bool false
  s33 : g 33 = .bool false
  s34 : g 34 = .slice a len cap
  s35 : g 35 = .int .i64 (len : Nat)
  s36 : g 36 = .int .i64 (k : Nat)

def RelP (size : Int) (a : Option Addr) (len cap : Nat) (w : World) (A wb : Nat) (a' : Act) (V : World) : Prop :=
  ∃ (k : Nat) (ds : List Deferred) (g : Nat → Value), a' = { tmps := frG g, defers := ds } ∧ FxP size a len cap w.heap.size A wb k g ∧ k ≤ len ∧ PxR w A wb ds V
theorem RelP.mk {size : Int} {a : Option Addr} {len cap : Nat} {w : World} {A wb : Nat} {t : Array Value} {ds : List Deferred} {V : World} (k : Nat) (h : t.size = 148) (hf : FxP size a len cap w.heap.size A wb k (fun i => t.getD i undef)) (hk : k ≤ len) (hR : PxR w A wb ds V) : RelP size a len cap w A wb { tmps := t, defers := ds } V :=
  ⟨k, ds, fun i => t.getD i undef, by rw [← frG_of h], hf, hk, hR⟩

set_option maxRecDepth 100000 in
set_option maxHeartbeats 4000000 in
theorem walkZonePrefix_t (size : Int) (a : Option Addr) (len cap : Nat) (f : Nat → OpR) (w : World) (h1 : 1 ≤ size) (h2 : size ≤ 64) (hops : RowOp w a len cap f) (hl : len ≤ 80) : Calls Try.prog 4 #[.int .i64 size, .slice a len cap] w fun e w' => e = .returned (.bool true) ∧ Below w.heap.size w w' := by
  have Hops := Lib.hid hops
  have hcap : len ≤ cap ∧ cap ≤ 9223372036854775807 := by have := hops.max; unfold maxLen at this; exact ⟨hops.le, this⟩
  obtain ⟨hc1, hc2⟩ := hcap
  clear hops
  have HB0 := Lib.hid (below_alloc w (Obj.cells #[.bool false] 4))
  have HR0 := Lib.hid (Blk.new w 4 #[.bool false])
  refine calls_marks Try.func4 rfl ?_
  simp only [Try.ntmps4, List.size_toArray, List.length_cons, List.length_nil, Nat.reduceAdd, Nat.reduceSub, Array.replicate_succ, Array.replicate_zero, List.push_toArray, List.append_toArray, List.nil_append, List.cons_append]
  go_upto_region 1 with fail
  generalize w.alloc (Obj.cells #[.bool false] 4) = w0 at *
  go_wp2_with fail
  refine (anchor6_any _).mono ?_
  rintro e w1 ⟨rfl, hb⟩
  have HR1 := Lib.hid (HR0.out.below hb HR0.out.lt)
  have HB1 := Lib.hid (bthen' HB0.out hb)
  clear HR0 HB0 hb
  go_wp2_with fail
  refine (znewI_ok size _ h1 h2).mono ?_
  rintro e w2 ⟨rfl, rfl⟩
  have HB2 := Lib.hid (bthen' HB1.out (below_alloc w1 (Obj.cells (zoA (zo0 size) (.slice none 0 0)) 56)))
  have HR2 := Lib.hid (HR1.out.alloc (Obj.cells (zoA (zo0 size) (.slice none 0 0)) 56))
  have HZ2 := Lib.hid (zat_new (T := 56) (E := 3) (lo := w.heap.size) w1 size HB1.out.size)
  clear HR1 HB1
  have dl : decide ((80 : Int) < (len : Int)) = false := decide_eq_false (by omega)
  go_upto_region 6 with fail
  clear dl
  generalize w1.alloc (Obj.cells (zoA (zo0 size) (.slice none 0 0)) 56) = w2 at *
  generalize w1.heap.size = A at *
  go_upto_region 7 with fail
  have HI : Hid (PxI w A w2.heap.size (.slice none 0 0) (.slice none 0 0) (zo0 size) [] (w2.alloc (Obj.cells #[.slice none 0 0] 28))) := Lib.hid ⟨HR2.out.alloc _, Blk.new _ _ _, HZ2.out.below (below_alloc _ _), own_nil _ _ _, fun g h => by simp [Value.ownBlock] at h, bthen' HB2.out (below_alloc _ _), HR2.out.lt⟩
  clear HZ2 HB2 HR2
  generalize w2.alloc (Obj.cells #[.slice none 0 0] 28) = w3 at *
  generalize w2.heap.size = wb at *
  have Hok0 := Lib.hid (zo0_ok (size := size) ⟨h1, h2⟩)
  go_wp2_with fail
  refine wp_loop (RelP size a len cap w A wb) (fun a' _ => (len - (intOf (a'.tmps.getD 36 undef)).toNat)) ?start ?round
  case start =>
    exact RelP.mk 0 rfl ⟨rfl, rfl, rfl, rfl, rfl, rfl, rfl, rfl, rfl, rfl, rfl, rfl, rfl, rfl, rfl, rfl, rfl, rfl, rfl, rfl, rfl, rfl, rfl, rfl, rfl, rfl, rfl, rfl, rfl, rfl⟩ (Nat.zero_le _) (PxR.mk HI.out rfl Hok0.out (Marks.nil _ _))
  case round =>
    rintro a' V ⟨k, ds, g, rfl, hfx, hk, hR⟩
    rw [frG_lit g]
    simp only [hfx.s0, hfx.s1, hfx.s2, hfx.s3, hfx.s4, hfx.s5, hfx.s6, hfx.s7, hfx.s8, hfx.s16, hfx.s17, hfx.s18, hfx.s19, hfx.s20, hfx.s21, hfx.s22, hfx.s23, hfx.s24, hfx.s25, hfx.s26, hfx.s27, hfx.s28, hfx.s29, hfx.s30, hfx.s31, hfx.s32, hfx.s33, hfx.s34, hfx.s35, hfx.s36]
    clear hfx
    obtain ⟨v, uw, z, zs, hI, hxs, hok, hM⟩ := hR
    obtain ⟨ua, uc, rfl⟩ := own_slice hI.own
    have hzl : zs.length ≤ 64 := by have h1 := hok.len; have h2 := hok.size.2; rw [hxs, ivals_length] at h1; omega
    have HIr := Lib.hid hI
    have HMr := Lib.hid hM
    have Hxs := Lib.hid hxs
    have Hok := Lib.hid hok
    clear hI hM hxs hok HI Hok0
    by_cases hlt : k < len
    · obtain ⟨b, off, rfl, hat⟩ := (Hops.out.below HIr.out.B).cells (by omega)
      obtain ⟨k0, k1, k2, kw⟩ := hat k hlt
      clear hat
      generalize f k = o at *
      have hkw := bounds_i64 kw
      clear kw
      go_upto_region 10 with fail
      have HI0 := Lib.hid (HIr.out.below (below_alloc V (Obj.cells #[.int .i64 o.k, .int .i64 o.x, .int .i64 o.y] 32)))
      have HO1 := Lib.hid (Blk.new V 32 #[.int .i64 o.k, .int .i64 o.x, .int .i64 o.y])
      have HM0 := Lib.hid (HMr.out.mono (KeepsOthers.alloc V (Obj.cells #[.int .i64 o.k, .int .i64 o.x, .int .i64 o.y] 32)))
      clear k0 k1 k2 HIr HMr
      generalize V.alloc (Obj.cells #[.int .i64 o.k, .int .i64 o.x, .int .i64 o.y] 32) = W1 at *
      generalize V.heap.size = ob at *
      go_wp2_with fail
      refine (zsa HI0.out.z).mono ?_
      rintro e W1' ⟨rfl, rfl⟩
      have HI1 := HI0
      have HM1 := HM0
      clear HI0 HM0
      have c0 : W1.cell? ⟨ob, 0, none⟩ = some (.int .i64 o.k) := (HO1.out.cell 0).trans rfl
      have c1 : W1.cell? ⟨ob, 1, none⟩ = some (.int .i64 o.x) := (HO1.out.cell 1).trans rfl
      go_upto_block 2 with fail
      go_cut [10, 11, 12] from 37 to 147 (fun s10 s11 s12 wx => PxR w A wb ds wx)
      case first =>
        by_cases h1 : o.k = 1
        · have d1 : (o.k == 1) = true := by simp [h1]
          clear h1
          go_wp2_with fail
          refine (zapI o.x HI1.out.z Hok.out HI1.out.lo).mono ?_
          rintro e W2 ⟨rfl, hT⟩
          have HO2 := Lib.hid (hT.blk HI1.out.z HO1.out (by decide) (by decide))
          obtain ⟨v1, hi1, hko⟩ := HI1.out.zto hT
          have HI2 := Lib.hid hi1
          have HM2 := Lib.hid (HM1.out.mono hko)
          clear hT hi1 hko
          by_cases h0 : apE z = 0
          · obtain ⟨hx2, ho2⟩ := ap_ok (x := o.x) Hxs.out Hok.out h0
            have Hx2 := Lib.hid hx2
            have Ho2 := Lib.hid ho2
            rw [h0]
            clear h0 hx2 ho2
            generalize apZ z (.int .i64 o.x) = z1 at *
            generalize apO z = AO at *
            go_upto_region 15 with fail
            refine wp_only ?_
            have Hon : Hid (¬ ob = wb) := Lib.hid (Blk.unlike HO2.out HI2.out.Wb (by decide))
            have hlo2 : w.heap.size ≤ W2.heap.size := HI2.out.lo
            refine wp_region_held (S := fun w' => Kept (· = wb) W2 w') (by kernel_rfl) ?_
            change wpAnyH _ _ _ _ _ _ _ _ (World.drew _)
            have hS : Kept (· = wb) W2 W2.drew := (Kept.refl _ _).drew
            have hB : Below W2.heap.size W2 W2.drew := (Below.refl _ _).drew
            refine takeH hS (i := 3) (d := 58) (v := .pointer (some ⟨ob, 1, none⟩)) rfl rfl (by kernel_rfl) (by kernel_rfl) (by kernel_rfl) (fun _ _ _ h => h) (Or.inl ⟨by kernel_rfl, fun w' hw' => by kernel_rfl⟩) ?_
            refine takeH hS (i := 4) (d := 59) (v := .int .i64 o.x) rfl rfl (by kernel_rfl) (by kernel_rfl) (by kernel_rfl) (fun _ _ _ h => h) (Or.inl ⟨by kernel_rfl, fun w' hw' => by exact exec_cell _ rfl ⟨ob, 1, none⟩ rfl _ Try.underlying3 (((HO2.out.kept hw' Hon.out).cell 1).trans rfl)⟩) ?_
            try go_frame
            generalize W2.drew = wd at *
            refine nextH3 (i := 0) (k := 1) (l := 5) rfl rfl rfl (by kernel_rfl) (by kernel_rfl) (by kernel_rfl) (by kernel_rfl) (fun K' hK => ?_) (fun K' hK => ?_) (fun K' hK => ?_) 
            · go_wp2_with fail
              have hB0 : Below W2.heap.size W2 (wd.alloc (Obj.cells #[] 3)) := bel_next hB (below_alloc _ _)
              have HP0 : Hid (World.ownsRow (wd.alloc (Obj.cells #[] 3)) w.heap.size 3 1 (.slice (some ⟨wd.heap.size, 0, none⟩) 0 0) 0 []) := Lib.hid (World.ownsRow_made wd #[] 0 (by have := hB.size; omega) (Nat.zero_le _) rfl)
              have hp0 : W2.heap.size ≤ wd.heap.size := hB.size
              refine hK.out _ _ ⟨Kept.of_below hB0, ?_⟩
              clear hK K' hB hS
              generalize wd.alloc (Obj.cells #[] 3) = wda at *
              generalize wd.heap.size = p0 at *
              have hS : Kept (· = wb) W2 wda := Kept.of_below hB0
              have hB := hB0
              clear hB0
              try go_frame
              refine nextH2 (i := 1) (k := 5) rfl rfl (by kernel_rfl) (by kernel_rfl) (by kernel_rfl) (fun K' hK => ?_) (fun K' hK => ?_) 
              · have cW := blk_one (HI2.out.Wb.below hB HI2.out.Wb.lt)
                go_wp2_with fail
                refine hK.out _ _ ⟨hS, ?_⟩
                clear hK K' cW
                try go_frame
                refine nextH2 (i := 2) (k := 5) rfl rfl (by kernel_rfl) (by kernel_rfl) (by kernel_rfl) (fun K' hK => ?_) (fun K' hK => ?_) 
                · refine wpo_appendV elI (.tmp 55) (.tmp 56) rfl w.heap.size (.slice (some ⟨p0, 0, none⟩) 0 0) 0 [] rfl HP0.out ua zs.length uc (ivals zs) rfl (ivals_length _) (own_src (own_below HI2.out.own hB)).1 (own_src (own_below HI2.out.own hB)).2 (ivals_one _) (by omega) (by have := hB.size; omega) ?_
                  intro v2 w6 hown hgr hv2
                  rw [Nat.zero_add, List.nil_append] at hown
                  have hf2 : ∀ g, v2.ownBlock = some g → W2.heap.size ≤ g := fun g hg => by
                    rcases hv2 with h | h
                    · rw [h] at hg; injection hg with hg; subst hg; exact hp0
                    · rw [h] at hg; injection hg with hg; have := hB.size; omega
                  have hB0 : Below W2.heap.size W2 w6 := hB.grown hgr hB.size (fun k e => by injection e with e; subst e; exact hp0)
                  obtain ⟨a2, c2, rfl⟩ := own_slice hown
                  have HO57 := Lib.hid hown
                  have Hv57 := Lib.hid hf2
                  refine hK.out _ _ ⟨Kept.of_below hB0, ?_⟩
                  clear hK K' hown hgr hv2 hf2 hB hS
                  have hS : Kept (· = wb) W2 w6 := Kept.of_below hB0
                  have hB := hB0
                  clear hB0
                  try go_frame
                  refine nextH (i := 5) rfl (by kernel_rfl) (by kernel_rfl) (fun K' hK => ?_) 
                  go_wp2_with fail
                  have hB0 : Below W2.heap.size W2 (w6.alloc (Obj.cells #[.int .i64 o.x] 3)) := bel_next hB (below_alloc _ _)
                  have HQ : Hid (Blk (w6.alloc (Obj.cells #[.int .i64 o.x] 3)) w6.heap.size 3 #[.int .i64 o.x]) := Lib.hid (Blk.new _ _ _)
                  have HP1 := Lib.hid (own_below HO57.out (below_alloc w6 (Obj.cells #[.int .i64 o.x] 3)))
                  refine hK.out _ _ ⟨Kept.of_below hB0, ?_⟩
                  clear hK K' hB hS HO57
                  generalize w6.alloc (Obj.cells #[.int .i64 o.x] 3) = w6b at *
                  generalize w6.heap.size = q0 at *
                  have hS : Kept (· = wb) W2 w6b := Kept.of_below hB0
                  have hB := hB0
                  clear hB0
                  have HO57 := HP1
                  clear HP1
                  try go_frame
                  refine nextH (i := 6) rfl (by kernel_rfl) (by kernel_rfl) (fun K' hK => ?_)
                  refine wpo_appendV elI (.tmp 57) (.tmp 60) rfl w.heap.size (.slice a2 zs.length c2) zs.length (ivals zs) rfl HO57.out (some ⟨q0, 0, none⟩) 1 1 [.int .i64 o.x] rfl rfl (fun e => by cases e) (src_blk HQ.out) (by intro u hu; rcases List.mem_singleton.1 hu with rfl; rfl) (by omega) (by have := hB.size; omega) ?_
                  intro v3 w7 hown hgr hv3
                  have hf3 : ∀ g, v3.ownBlock = some g → W2.heap.size ≤ g := fun g hg => by
                    rcases hv3 with h | h
                    · rw [h] at hg; exact Hv57.out g hg
                    · rw [h] at hg; injection hg with hg; have := hB.size; omega
                  have hB7 : Below W2.heap.size W2 w7 := hB.grown hgr hB.size (fun k e => Hv57.out k e)
                  have HP := Lib.hid (HI2.out.app hB7 hown hf3)
                  obtain ⟨a3, c3, rfl⟩ := own_slice hown
                  refine hK.out _ _ ⟨Kept.of_below hB7, ?_⟩
                  have cW := blk_one (HI2.out.Wb.below hB7 HI2.out.Wb.lt)
                  have fW := (HI2.out.Wb.below hB7 HI2.out.Wb.lt).frozen 0
                  clear hK K' hown hgr hv3 hf3 hB hS
                  try go_frame
                  refine nextH (i := 7) rfl (by kernel_rfl) (by kernel_rfl) (fun K' hK => ?_)
                  go_wp2_with fail
                  refine hK.out _ _ ⟨HP.out.2.2, ?_⟩
                  clear hK K' cW fW hB7
                  refine wpAnyH_done (by kernel_rfl) ?_ _
                  go_wp2_with fail
                  go_meet
                  exact PxR.mk HP.out.1 Hx2.out Ho2.out (HM2.out.mono HP.out.2.1)
                · go_wp2_with fail
                  have hB0 : Below W2.heap.size W2 (wda.alloc (Obj.cells #[.int .i64 o.x] 3)) := bel_next hB (below_alloc _ _)
                  have HQ : Hid (Blk (wda.alloc (Obj.cells #[.int .i64 o.x] 3)) wda.heap.size 3 #[.int .i64 o.x]) := Lib.hid (Blk.new _ _ _)
                  have HP1 := Lib.hid (own_below HP0.out (below_alloc wda (Obj.cells #[.int .i64 o.x] 3)))
                  have hpq : p0 ≠ wda.heap.size := by have := own_lt HP0.out (g := p0) rfl; omega
                  refine hK.out _ _ ⟨Kept.of_below hB0, ?_⟩
                  clear hK K' hB hS HP0
                  generalize wda.alloc (Obj.cells #[.int .i64 o.x] 3) = wdab at *
                  generalize wda.heap.size = q0 at *
                  have hS : Kept (· = wb) W2 wdab := Kept.of_below hB0
                  have hB := hB0
                  clear hB0
                  have HP0 := HP1
                  clear HP1
                  try go_frame
                  refine nextH (i := 2) rfl (by kernel_rfl) (by kernel_rfl) (fun K' hK => ?_) 
                  refine wpo_appendV elI (.tmp 55) (.tmp 56) rfl w.heap.size (.slice (some ⟨p0, 0, none⟩) 0 0) 0 [] rfl HP0.out ua zs.length uc (ivals zs) rfl (ivals_length _) (own_src (own_below HI2.out.own hB)).1 (own_src (own_below HI2.out.own hB)).2 (ivals_one _) (by omega) (by have := hB.size; omega) ?_
                  intro v2 w6 hown hgr hv2
                  rw [Nat.zero_add, List.nil_append] at hown
                  have hf2 : ∀ g, v2.ownBlock = some g → W2.heap.size ≤ g := fun g hg => by
                    rcases hv2 with h | h
                    · rw [h] at hg; injection hg with hg; subst hg; exact hp0
                    · rw [h] at hg; injection hg with hg; have := hB.size; omega
                  have hB0 : Below W2.heap.size W2 w6 := hB.grown hgr hB.size (fun k e => by injection e with e; subst e; exact hp0)
                  have HQ0 := Lib.hid (HQ.out.grown hgr (fun e => by injection e with e; exact hpq e.symm))
                  obtain ⟨a2, c2, rfl⟩ := own_slice hown
                  have HO57 := Lib.hid hown
                  have Hv57 := Lib.hid hf2
                  refine hK.out _ _ ⟨Kept.of_below hB0, ?_⟩
                  clear hK K' hown hgr hv2 hf2 hB hS HQ
                  have hS : Kept (· = wb) W2 w6 := Kept.of_below hB0
                  have hB := hB0
                  clear hB0
                  have HQ := HQ0
                  clear HQ0
                  try go_frame
                  refine nextH (i := 6) rfl (by kernel_rfl) (by kernel_rfl) (fun K' hK => ?_)
                  refine wpo_appendV elI (.tmp 57) (.tmp 60) rfl w.heap.size (.slice a2 zs.length c2) zs.length (ivals zs) rfl HO57.out (some ⟨q0, 0, none⟩) 1 1 [.int .i64 o.x] rfl rfl (fun e => by cases e) (src_blk HQ.out) (by intro u hu; rcases List.mem_singleton.1 hu with rfl; rfl) (by omega) (by have := hB.size; omega) ?_
                  intro v3 w7 hown hgr hv3
                  have hf3 : ∀ g, v3.ownBlock = some g → W2.heap.size ≤ g := fun g hg => by
                    rcases hv3 with h | h
                    · rw [h] at hg; exact Hv57.out g hg
                    · rw [h] at hg; injection hg with hg; have := hB.size; omega
                  have hB7 : Below W2.heap.size W2 w7 := hB.grown hgr hB.size (fun k e => Hv57.out k e)
                  have HP := Lib.hid (HI2.out.app hB7 hown hf3)
                  obtain ⟨a3, c3, rfl⟩ := own_slice hown
                  refine hK.out _ _ ⟨Kept.of_below hB7, ?_⟩
                  have cW := blk_one (HI2.out.Wb.below hB7 HI2.out.Wb.lt)
                  have fW := (HI2.out.Wb.below hB7 HI2.out.Wb.lt).frozen 0
                  clear hK K' hown hgr hv3 hf3 hB hS
                  try go_frame
                  refine nextH (i := 7) rfl (by kernel_rfl) (by kernel_rfl) (fun K' hK => ?_)
                  go_wp2_with fail
                  refine hK.out _ _ ⟨HP.out.2.2, ?_⟩
                  clear hK K' cW fW hB7
                  refine wpAnyH_done (by kernel_rfl) ?_ _
                  go_wp2_with fail
                  go_meet
                  exact PxR.mk HP.out.1 Hx2.out Ho2.out (HM2.out.mono HP.out.2.1)
              · go_wp2_with fail
                have hB0 : Below W2.heap.size W2 (wda.alloc (Obj.cells #[.int .i64 o.x] 3)) := bel_next hB (below_alloc _ _)
                have HQ : Hid (Blk (wda.alloc (Obj.cells #[.int .i64 o.x] 3)) wda.heap.size 3 #[.int .i64 o.x]) := Lib.hid (Blk.new _ _ _)
                have HP1 := Lib.hid (own_below HP0.out (below_alloc wda (Obj.cells #[.int .i64 o.x] 3)))
                have hpq : p0 ≠ wda.heap.size := by have := own_lt HP0.out (g := p0) rfl; omega
                refine hK.out _ _ ⟨Kept.of_below hB0, ?_⟩
                clear hK K' hB hS HP0
                generalize wda.alloc (Obj.cells #[.int .i64 o.x] 3) = wdab at *
                generalize wda.heap.size = q0 at *
                have hS : Kept (· = wb) W2 wdab := Kept.of_below hB0
                have hB := hB0
                clear hB0
                have HP0 := HP1
                clear HP1
                try go_frame
                refine nextH (i := 1) rfl (by kernel_rfl) (by kernel_rfl) (fun K' hK => ?_) 
                have cW := blk_one (HI2.out.Wb.below hB HI2.out.Wb.lt)
                go_wp2_with fail
                refine hK.out _ _ ⟨hS, ?_⟩
                clear hK K' cW
                try go_frame
                refine nextH (i := 2) rfl (by kernel_rfl) (by kernel_rfl) (fun K' hK => ?_) 
                refine wpo_appendV elI (.tmp 55) (.tmp 56) rfl w.heap.size (.slice (some ⟨p0, 0, none⟩) 0 0) 0 [] rfl HP0.out ua zs.length uc (ivals zs) rfl (ivals_length _) (own_src (own_below HI2.out.own hB)).1 (own_src (own_below HI2.out.own hB)).2 (ivals_one _) (by omega) (by have := hB.size; omega) ?_
                intro v2 w6 hown hgr hv2
                rw [Nat.zero_add, List.nil_append] at hown
                have hf2 : ∀ g, v2.ownBlock = some g → W2.heap.size ≤ g := fun g hg => by
                  rcases hv2 with h | h
                  · rw [h] at hg; injection hg with hg; subst hg; exact hp0
                  · rw [h] at hg; injection hg with hg; have := hB.size; omega
                have hB0 : Below W2.heap.size W2 w6 := hB.grown hgr hB.size (fun k e => by injection e with e; subst e; exact hp0)
                have HQ0 := Lib.hid (HQ.out.grown hgr (fun e => by injection e with e; exact hpq e.symm))
                obtain ⟨a2, c2, rfl⟩ := own_slice hown
                have HO57 := Lib.hid hown
                have Hv57 := Lib.hid hf2
                refine hK.out _ _ ⟨Kept.of_below hB0, ?_⟩
                clear hK K' hown hgr hv2 hf2 hB hS HQ
                have hS : Kept (· = wb) W2 w6 := Kept.of_below hB0
                have hB := hB0
                clear hB0
                have HQ := HQ0
                clear HQ0
                try go_frame
                refine nextH (i := 6) rfl (by kernel_rfl) (by kernel_rfl) (fun K' hK => ?_)
                refine wpo_appendV elI (.tmp 57) (.tmp 60) rfl w.heap.size (.slice a2 zs.length c2) zs.length (ivals zs) rfl HO57.out (some ⟨q0, 0, none⟩) 1 1 [.int .i64 o.x] rfl rfl (fun e => by cases e) (src_blk HQ.out) (by intro u hu; rcases List.mem_singleton.1 hu with rfl; rfl) (by omega) (by have := hB.size; omega) ?_
                intro v3 w7 hown hgr hv3
                have hf3 : ∀ g, v3.ownBlock = some g → W2.heap.size ≤ g := fun g hg => by
                  rcases hv3 with h | h
                  · rw [h] at hg; exact Hv57.out g hg
                  · rw [h] at hg; injection hg with hg; have := hB.size; omega
                have hB7 : Below W2.heap.size W2 w7 := hB.grown hgr hB.size (fun k e => Hv57.out k e)
                have HP := Lib.hid (HI2.out.app hB7 hown hf3)
                obtain ⟨a3, c3, rfl⟩ := own_slice hown
                refine hK.out _ _ ⟨Kept.of_below hB7, ?_⟩
                have cW := blk_one (HI2.out.Wb.below hB7 HI2.out.Wb.lt)
                have fW := (HI2.out.Wb.below hB7 HI2.out.Wb.lt).frozen 0
                clear hK K' hown hgr hv3 hf3 hB hS
                try go_frame
                refine nextH (i := 7) rfl (by kernel_rfl) (by kernel_rfl) (fun K' hK => ?_)
                go_wp2_with fail
                refine hK.out _ _ ⟨HP.out.2.2, ?_⟩
                clear hK K' cW fW hB7
                refine wpAnyH_done (by kernel_rfl) ?_ _
                go_wp2_with fail
                go_meet
                exact PxR.mk HP.out.1 Hx2.out Ho2.out (HM2.out.mono HP.out.2.1)
            · have cW := blk_one (HI2.out.Wb.below hB HI2.out.Wb.lt)
              go_wp2_with fail
              refine hK.out _ _ ⟨hS, ?_⟩
              clear hK K' cW
              try go_frame
              refine nextH2 (i := 0) (k := 5) rfl rfl (by kernel_rfl) (by kernel_rfl) (by kernel_rfl) (fun K' hK => ?_) (fun K' hK => ?_) 
              · go_wp2_with fail
                have hB0 : Below W2.heap.size W2 (wd.alloc (Obj.cells #[] 3)) := bel_next hB (below_alloc _ _)
                have HP0 : Hid (World.ownsRow (wd.alloc (Obj.cells #[] 3)) w.heap.size 3 1 (.slice (some ⟨wd.heap.size, 0, none⟩) 0 0) 0 []) := Lib.hid (World.ownsRow_made wd #[] 0 (by have := hB.size; omega) (Nat.zero_le _) rfl)
                have hp0 : W2.heap.size ≤ wd.heap.size := hB.size
                refine hK.out _ _ ⟨Kept.of_below hB0, ?_⟩
                clear hK K' hB hS
                generalize wd.alloc (Obj.cells #[] 3) = wda at *
                generalize wd.heap.size = p0 at *
                have hS : Kept (· = wb) W2 wda := Kept.of_below hB0
                have hB := hB0
                clear hB0
                try go_frame
                refine nextH2 (i := 2) (k := 5) rfl rfl (by kernel_rfl) (by kernel_rfl) (by kernel_rfl) (fun K' hK => ?_) (fun K' hK => ?_) 
                · refine wpo_appendV elI (.tmp 55) (.tmp 56) rfl w.heap.size (.slice (some ⟨p0, 0, none⟩) 0 0) 0 [] rfl HP0.out ua zs.length uc (ivals zs) rfl (ivals_length _) (own_src (own_below HI2.out.own hB)).1 (own_src (own_below HI2.out.own hB)).2 (ivals_one _) (by omega) (by have := hB.size; omega) ?_
                  intro v2 w6 hown hgr hv2
                  rw [Nat.zero_add, List.nil_append] at hown
                  have hf2 : ∀ g, v2.ownBlock = some g → W2.heap.size ≤ g := fun g hg => by
                    rcases hv2 with h | h
                    · rw [h] at hg; injection hg with hg; subst hg; exact hp0
                    · rw [h] at hg; injection hg with hg; have := hB.size; omega
                  have hB0 : Below W2.heap.size W2 w6 := hB.grown hgr hB.size (fun k e => by injection e with e; subst e; exact hp0)
                  obtain ⟨a2, c2, rfl⟩ := own_slice hown
                  have HO57 := Lib.hid hown
                  have Hv57 := Lib.hid hf2
                  refine hK.out _ _ ⟨Kept.of_below hB0, ?_⟩
                  clear hK K' hown hgr hv2 hf2 hB hS
                  have hS : Kept (· = wb) W2 w6 := Kept.of_below hB0
                  have hB := hB0
                  clear hB0
                  try go_frame
                  refine nextH (i := 5) rfl (by kernel_rfl) (by kernel_rfl) (fun K' hK => ?_) 
                  go_wp2_with fail
                  have hB0 : Below W2.heap.size W2 (w6.alloc (Obj.cells #[.int .i64 o.x] 3)) := bel_next hB (below_alloc _ _)
                  have HQ : Hid (Blk (w6.alloc (Obj.cells #[.int .i64 o.x] 3)) w6.heap.size 3 #[.int .i64 o.x]) := Lib.hid (Blk.new _ _ _)
                  have HP1 := Lib.hid (own_below HO57.out (below_alloc w6 (Obj.cells #[.int .i64 o.x] 3)))
                  refine hK.out _ _ ⟨Kept.of_below hB0, ?_⟩
                  clear hK K' hB hS HO57
                  generalize w6.alloc (Obj.cells #[.int .i64 o.x] 3) = w6b at *
                  generalize w6.heap.size = q0 at *
                  have hS : Kept (· = wb) W2 w6b := Kept.of_below hB0
                  have hB := hB0
                  clear hB0
                  have HO57 := HP1
                  clear HP1
                  try go_frame
                  refine nextH (i := 6) rfl (by kernel_rfl) (by kernel_rfl) (fun K' hK => ?_)
                  refine wpo_appendV elI (.tmp 57) (.tmp 60) rfl w.heap.size (.slice a2 zs.length c2) zs.length (ivals zs) rfl HO57.out (some ⟨q0, 0, none⟩) 1 1 [.int .i64 o.x] rfl rfl (fun e => by cases e) (src_blk HQ.out) (by intro u hu; rcases List.mem_singleton.1 hu with rfl; rfl) (by omega) (by have := hB.size; omega) ?_
                  intro v3 w7 hown hgr hv3
                  have hf3 : ∀ g, v3.ownBlock = some g → W2.heap.size ≤ g := fun g hg => by
                    rcases hv3 with h | h
                    · rw [h] at hg; exact Hv57.out g hg
                    · rw [h] at hg; injection hg with hg; have := hB.size; omega
                  have hB7 : Below W2.heap.size W2 w7 := hB.grown hgr hB.size (fun k e => Hv57.out k e)
                  have HP := Lib.hid (HI2.out.app hB7 hown hf3)
                  obtain ⟨a3, c3, rfl⟩ := own_slice hown
                  refine hK.out _ _ ⟨Kept.of_below hB7, ?_⟩
                  have cW := blk_one (HI2.out.Wb.below hB7 HI2.out.Wb.lt)
                  have fW := (HI2.out.Wb.below hB7 HI2.out.Wb.lt).frozen 0
                  clear hK K' hown hgr hv3 hf3 hB hS
                  try go_frame
                  refine nextH (i := 7) rfl (by kernel_rfl) (by kernel_rfl) (fun K' hK => ?_)
                  go_wp2_with fail
                  refine hK.out _ _ ⟨HP.out.2.2, ?_⟩
                  clear hK K' cW fW hB7
                  refine wpAnyH_done (by kernel_rfl) ?_ _
                  go_wp2_with fail
                  go_meet
                  exact PxR.mk HP.out.1 Hx2.out Ho2.out (HM2.out.mono HP.out.2.1)
                · go_wp2_with fail
                  have hB0 : Below W2.heap.size W2 (wda.alloc (Obj.cells #[.int .i64 o.x] 3)) := bel_next hB (below_alloc _ _)
                  have HQ : Hid (Blk (wda.alloc (Obj.cells #[.int .i64 o.x] 3)) wda.heap.size 3 #[.int .i64 o.x]) := Lib.hid (Blk.new _ _ _)
                  have HP1 := Lib.hid (own_below HP0.out (below_alloc wda (Obj.cells #[.int .i64 o.x] 3)))
                  have hpq : p0 ≠ wda.heap.size := by have := own_lt HP0.out (g := p0) rfl; omega
                  refine hK.out _ _ ⟨Kept.of_below hB0, ?_⟩
                  clear hK K' hB hS HP0
                  generalize wda.alloc (Obj.cells #[.int .i64 o.x] 3) = wdab at *
                  generalize wda.heap.size = q0 at *
                  have hS : Kept (· = wb) W2 wdab := Kept.of_below hB0
                  have hB := hB0
                  clear hB0
                  have HP0 := HP1
                  clear HP1
                  try go_frame
                  refine nextH (i := 2) rfl (by kernel_rfl) (by kernel_rfl) (fun K' hK => ?_) 
                  refine wpo_appendV elI (.tmp 55) (.tmp 56) rfl w.heap.size (.slice (some ⟨p0, 0, none⟩) 0 0) 0 [] rfl HP0.out ua zs.length uc (ivals zs) rfl (ivals_length _) (own_src (own_below HI2.out.own hB)).1 (own_src (own_below HI2.out.own hB)).2 (ivals_one _) (by omega) (by have := hB.size; omega) ?_
                  intro v2 w6 hown hgr hv2
                  rw [Nat.zero_add, List.nil_append] at hown
                  have hf2 : ∀ g, v2.ownBlock = some g → W2.heap.size ≤ g := fun g hg => by
                    rcases hv2 with h | h
                    · rw [h] at hg; injection hg with hg; subst hg; exact hp0
                    · rw [h] at hg; injection hg with hg; have := hB.size; omega
                  have hB0 : Below W2.heap.size W2 w6 := hB.grown hgr hB.size (fun k e => by injection e with e; subst e; exact hp0)
                  have HQ0 := Lib.hid (HQ.out.grown hgr (fun e => by injection e with e; exact hpq e.symm))
                  obtain ⟨a2, c2, rfl⟩ := own_slice hown
                  have HO57 := Lib.hid hown
                  have Hv57 := Lib.hid hf2
                  refine hK.out _ _ ⟨Kept.of_below hB0, ?_⟩
                  clear hK K' hown hgr hv2 hf2 hB hS HQ
                  have hS : Kept (· = wb) W2 w6 := Kept.of_below hB0
                  have hB := hB0
                  clear hB0
                  have HQ := HQ0
                  clear HQ0
                  try go_frame
                  refine nextH (i := 6) rfl (by kernel_rfl) (by kernel_rfl) (fun K' hK => ?_)
                  refine wpo_appendV elI (.tmp 57) (.tmp 60) rfl w.heap.size (.slice a2 zs.length c2) zs.length (ivals zs) rfl HO57.out (some ⟨q0, 0, none⟩) 1 1 [.int .i64 o.x] rfl rfl (fun e => by cases e) (src_blk HQ.out) (by intro u hu; rcases List.mem_singleton.1 hu with rfl; rfl) (by omega) (by have := hB.size; omega) ?_
                  intro v3 w7 hown hgr hv3
                  have hf3 : ∀ g, v3.ownBlock = some g → W2.heap.size ≤ g := fun g hg => by
                    rcases hv3 with h | h
                    · rw [h] at hg; exact Hv57.out g hg
                    · rw [h] at hg; injection hg with hg; have := hB.size; omega
                  have hB7 : Below W2.heap.size W2 w7 := hB.grown hgr hB.size (fun k e => Hv57.out k e)
                  have HP := Lib.hid (HI2.out.app hB7 hown hf3)
                  obtain ⟨a3, c3, rfl⟩ := own_slice hown
                  refine hK.out _ _ ⟨Kept.of_below hB7, ?_⟩
                  have cW := blk_one (HI2.out.Wb.below hB7 HI2.out.Wb.lt)
                  have fW := (HI2.out.Wb.below hB7 HI2.out.Wb.lt).frozen 0
                  clear hK K' hown hgr hv3 hf3 hB hS
                  try go_frame
                  refine nextH (i := 7) rfl (by kernel_rfl) (by kernel_rfl) (fun K' hK => ?_)
                  go_wp2_with fail
                  refine hK.out _ _ ⟨HP.out.2.2, ?_⟩
                  clear hK K' cW fW hB7
                  refine wpAnyH_done (by kernel_rfl) ?_ _
                  go_wp2_with fail
                  go_meet
                  exact PxR.mk HP.out.1 Hx2.out Ho2.out (HM2.out.mono HP.out.2.1)
              · go_wp2_with fail
                have hB0 : Below W2.heap.size W2 (wd.alloc (Obj.cells #[.int .i64 o.x] 3)) := bel_next hB (below_alloc _ _)
                have HQ : Hid (Blk (wd.alloc (Obj.cells #[.int .i64 o.x] 3)) wd.heap.size 3 #[.int .i64 o.x]) := Lib.hid (Blk.new _ _ _)
                refine hK.out _ _ ⟨Kept.of_below hB0, ?_⟩
                clear hK K' hB hS
                generalize wd.alloc (Obj.cells #[.int .i64 o.x] 3) = wdb at *
                generalize wd.heap.size = q0 at *
                have hS : Kept (· = wb) W2 wdb := Kept.of_below hB0
                have hB := hB0
                clear hB0
                try go_frame
                refine nextH (i := 0) rfl (by kernel_rfl) (by kernel_rfl) (fun K' hK => ?_) 
                go_wp2_with fail
                have hB0 : Below W2.heap.size W2 (wdb.alloc (Obj.cells #[] 3)) := bel_next hB (below_alloc _ _)
                have HP0 : Hid (World.ownsRow (wdb.alloc (Obj.cells #[] 3)) w.heap.size 3 1 (.slice (some ⟨wdb.heap.size, 0, none⟩) 0 0) 0 []) := Lib.hid (World.ownsRow_made wdb #[] 0 (by have := hB.size; omega) (Nat.zero_le _) rfl)
                have hp0 : W2.heap.size ≤ wdb.heap.size := hB.size
                have HQ0 := Lib.hid (HQ.out.alloc (Obj.cells #[] 3))
                have hpq : wdb.heap.size ≠ q0 := by have := HQ.out.lt; omega
                refine hK.out _ _ ⟨Kept.of_below hB0, ?_⟩
                clear hK K' hB hS HQ
                generalize wdb.alloc (Obj.cells #[] 3) = wdba at *
                generalize wdb.heap.size = p0 at *
                have hS : Kept (· = wb) W2 wdba := Kept.of_below hB0
                have hB := hB0
                clear hB0
                have HQ := HQ0
                clear HQ0
                try go_frame
                refine nextH (i := 2) rfl (by kernel_rfl) (by kernel_rfl) (fun K' hK => ?_) 
                refine wpo_appendV elI (.tmp 55) (.tmp 56) rfl w.heap.size (.slice (some ⟨p0, 0, none⟩) 0 0) 0 [] rfl HP0.out ua zs.length uc (ivals zs) rfl (ivals_length _) (own_src (own_below HI2.out.own hB)).1 (own_src (own_below HI2.out.own hB)).2 (ivals_one _) (by omega) (by have := hB.size; omega) ?_
                intro v2 w6 hown hgr hv2
                rw [Nat.zero_add, List.nil_append] at hown
                have hf2 : ∀ g, v2.ownBlock = some g → W2.heap.size ≤ g := fun g hg => by
                  rcases hv2 with h | h
                  · rw [h] at hg; injection hg with hg; subst hg; exact hp0
                  · rw [h] at hg; injection hg with hg; have := hB.size; omega
                have hB0 : Below W2.heap.size W2 w6 := hB.grown hgr hB.size (fun k e => by injection e with e; subst e; exact hp0)
                have HQ0 := Lib.hid (HQ.out.grown hgr (fun e => by injection e with e; exact hpq e.symm))
                obtain ⟨a2, c2, rfl⟩ := own_slice hown
                have HO57 := Lib.hid hown
                have Hv57 := Lib.hid hf2
                refine hK.out _ _ ⟨Kept.of_below hB0, ?_⟩
                clear hK K' hown hgr hv2 hf2 hB hS HQ
                have hS : Kept (· = wb) W2 w6 := Kept.of_below hB0
                have hB := hB0
                clear hB0
                have HQ := HQ0
                clear HQ0
                try go_frame
                refine nextH (i := 6) rfl (by kernel_rfl) (by kernel_rfl) (fun K' hK => ?_)
                refine wpo_appendV elI (.tmp 57) (.tmp 60) rfl w.heap.size (.slice a2 zs.length c2) zs.length (ivals zs) rfl HO57.out (some ⟨q0, 0, none⟩) 1 1 [.int .i64 o.x] rfl rfl (fun e => by cases e) (src_blk HQ.out) (by intro u hu; rcases List.mem_singleton.1 hu with rfl; rfl) (by omega) (by have := hB.size; omega) ?_
                intro v3 w7 hown hgr hv3
                have hf3 : ∀ g, v3.ownBlock = some g → W2.heap.size ≤ g := fun g hg => by
                  rcases hv3 with h | h
                  · rw [h] at hg; exact Hv57.out g hg
                  · rw [h] at hg; injection hg with hg; have := hB.size; omega
                have hB7 : Below W2.heap.size W2 w7 := hB.grown hgr hB.size (fun k e => Hv57.out k e)
                have HP := Lib.hid (HI2.out.app hB7 hown hf3)
                obtain ⟨a3, c3, rfl⟩ := own_slice hown
                refine hK.out _ _ ⟨Kept.of_below hB7, ?_⟩
                have cW := blk_one (HI2.out.Wb.below hB7 HI2.out.Wb.lt)
                have fW := (HI2.out.Wb.below hB7 HI2.out.Wb.lt).frozen 0
                clear hK K' hown hgr hv3 hf3 hB hS
                try go_frame
                refine nextH (i := 7) rfl (by kernel_rfl) (by kernel_rfl) (fun K' hK => ?_)
                go_wp2_with fail
                refine hK.out _ _ ⟨HP.out.2.2, ?_⟩
                clear hK K' cW fW hB7
                refine wpAnyH_done (by kernel_rfl) ?_ _
                go_wp2_with fail
                go_meet
                exact PxR.mk HP.out.1 Hx2.out Ho2.out (HM2.out.mono HP.out.2.1)
            · go_wp2_with fail
              have hB0 : Below W2.heap.size W2 (wd.alloc (Obj.cells #[.int .i64 o.x] 3)) := bel_next hB (below_alloc _ _)
              have HQ : Hid (Blk (wd.alloc (Obj.cells #[.int .i64 o.x] 3)) wd.heap.size 3 #[.int .i64 o.x]) := Lib.hid (Blk.new _ _ _)
              refine hK.out _ _ ⟨Kept.of_below hB0, ?_⟩
              clear hK K' hB hS
              generalize wd.alloc (Obj.cells #[.int .i64 o.x] 3) = wdb at *
              generalize wd.heap.size = q0 at *
              have hS : Kept (· = wb) W2 wdb := Kept.of_below hB0
              have hB := hB0
              clear hB0
              try go_frame
              refine nextH2 (i := 0) (k := 1) rfl rfl (by kernel_rfl) (by kernel_rfl) (by kernel_rfl) (fun K' hK => ?_) (fun K' hK => ?_) 
              · go_wp2_with fail
                have hB0 : Below W2.heap.size W2 (wdb.alloc (Obj.cells #[] 3)) := bel_next hB (below_alloc _ _)
                have HP0 : Hid (World.ownsRow (wdb.alloc (Obj.cells #[] 3)) w.heap.size 3 1 (.slice (some ⟨wdb.heap.size, 0, none⟩) 0 0) 0 []) := Lib.hid (World.ownsRow_made wdb #[] 0 (by have := hB.size; omega) (Nat.zero_le _) rfl)
                have hp0 : W2.heap.size ≤ wdb.heap.size := hB.size
                have HQ0 := Lib.hid (HQ.out.alloc (Obj.cells #[] 3))
                have hpq : wdb.heap.size ≠ q0 := by have := HQ.out.lt; omega
                refine hK.out _ _ ⟨Kept.of_below hB0, ?_⟩
                clear hK K' hB hS HQ
                generalize wdb.alloc (Obj.cells #[] 3) = wdba at *
                generalize wdb.heap.size = p0 at *
                have hS : Kept (· = wb) W2 wdba := Kept.of_below hB0
                have hB := hB0
                clear hB0
                have HQ := HQ0
                clear HQ0
                try go_frame
                refine nextH (i := 1) rfl (by kernel_rfl) (by kernel_rfl) (fun K' hK => ?_) 
                have cW := blk_one (HI2.out.Wb.below hB HI2.out.Wb.lt)
                go_wp2_with fail
                refine hK.out _ _ ⟨hS, ?_⟩
                clear hK K' cW
                try go_frame
                refine nextH (i := 2) rfl (by kernel_rfl) (by kernel_rfl) (fun K' hK => ?_) 
                refine wpo_appendV elI (.tmp 55) (.tmp 56) rfl w.heap.size (.slice (some ⟨p0, 0, none⟩) 0 0) 0 [] rfl HP0.out ua zs.length uc (ivals zs) rfl (ivals_length _) (own_src (own_below HI2.out.own hB)).1 (own_src (own_below HI2.out.own hB)).2 (ivals_one _) (by omega) (by have := hB.size; omega) ?_
                intro v2 w6 hown hgr hv2
                rw [Nat.zero_add, List.nil_append] at hown
                have hf2 : ∀ g, v2.ownBlock = some g → W2.heap.size ≤ g := fun g hg => by
                  rcases hv2 with h | h
                  · rw [h] at hg; injection hg with hg; subst hg; exact hp0
                  · rw [h] at hg; injection hg with hg; have := hB.size; omega
                have hB0 : Below W2.heap.size W2 w6 := hB.grown hgr hB.size (fun k e => by injection e with e; subst e; exact hp0)
                have HQ0 := Lib.hid (HQ.out.grown hgr (fun e => by injection e with e; exact hpq e.symm))
                obtain ⟨a2, c2, rfl⟩ := own_slice hown
                have HO57 := Lib.hid hown
                have Hv57 := Lib.hid hf2
                refine hK.out _ _ ⟨Kept.of_below hB0, ?_⟩
                clear hK K' hown hgr hv2 hf2 hB hS HQ
                have hS : Kept (· = wb) W2 w6 := Kept.of_below hB0
                have hB := hB0
                clear hB0
                have HQ := HQ0
                clear HQ0
                try go_frame
                refine nextH (i := 6) rfl (by kernel_rfl) (by kernel_rfl) (fun K' hK => ?_)
                refine wpo_appendV elI (.tmp 57) (.tmp 60) rfl w.heap.size (.slice a2 zs.length c2) zs.length (ivals zs) rfl HO57.out (some ⟨q0, 0, none⟩) 1 1 [.int .i64 o.x] rfl rfl (fun e => by cases e) (src_blk HQ.out) (by intro u hu; rcases List.mem_singleton.1 hu with rfl; rfl) (by omega) (by have := hB.size; omega) ?_
                intro v3 w7 hown hgr hv3
                have hf3 : ∀ g, v3.ownBlock = some g → W2.heap.size ≤ g := fun g hg => by
                  rcases hv3 with h | h
                  · rw [h] at hg; exact Hv57.out g hg
                  · rw [h] at hg; injection hg with hg; have := hB.size; omega
                have hB7 : Below W2.heap.size W2 w7 := hB.grown hgr hB.size (fun k e => Hv57.out k e)
                have HP := Lib.hid (HI2.out.app hB7 hown hf3)
                obtain ⟨a3, c3, rfl⟩ := own_slice hown
                refine hK.out _ _ ⟨Kept.of_below hB7, ?_⟩
                have cW := blk_one (HI2.out.Wb.below hB7 HI2.out.Wb.lt)
                have fW := (HI2.out.Wb.below hB7 HI2.out.Wb.lt).frozen 0
                clear hK K' hown hgr hv3 hf3 hB hS
                try go_frame
                refine nextH (i := 7) rfl (by kernel_rfl) (by kernel_rfl) (fun K' hK => ?_)
                go_wp2_with fail
                refine hK.out _ _ ⟨HP.out.2.2, ?_⟩
                clear hK K' cW fW hB7
                refine wpAnyH_done (by kernel_rfl) ?_ _
                go_wp2_with fail
                go_meet
                exact PxR.mk HP.out.1 Hx2.out Ho2.out (HM2.out.mono HP.out.2.1)
              · have cW := blk_one (HI2.out.Wb.below hB HI2.out.Wb.lt)
                go_wp2_with fail
                refine hK.out _ _ ⟨hS, ?_⟩
                clear hK K' cW
                try go_frame
                refine nextH (i := 0) rfl (by kernel_rfl) (by kernel_rfl) (fun K' hK => ?_) 
                go_wp2_with fail
                have hB0 : Below W2.heap.size W2 (wdb.alloc (Obj.cells #[] 3)) := bel_next hB (below_alloc _ _)
                have HP0 : Hid (World.ownsRow (wdb.alloc (Obj.cells #[] 3)) w.heap.size 3 1 (.slice (some ⟨wdb.heap.size, 0, none⟩) 0 0) 0 []) := Lib.hid (World.ownsRow_made wdb #[] 0 (by have := hB.size; omega) (Nat.zero_le _) rfl)
                have hp0 : W2.heap.size ≤ wdb.heap.size := hB.size
                have HQ0 := Lib.hid (HQ.out.alloc (Obj.cells #[] 3))
                have hpq : wdb.heap.size ≠ q0 := by have := HQ.out.lt; omega
                refine hK.out _ _ ⟨Kept.of_below hB0, ?_⟩
                clear hK K' hB hS HQ
                generalize wdb.alloc (Obj.cells #[] 3) = wdba at *
                generalize wdb.heap.size = p0 at *
                have hS : Kept (· = wb) W2 wdba := Kept.of_below hB0
                have hB := hB0
                clear hB0
                have HQ := HQ0
                clear HQ0
                try go_frame
                refine nextH (i := 2) rfl (by kernel_rfl) (by kernel_rfl) (fun K' hK => ?_) 
                refine wpo_appendV elI (.tmp 55) (.tmp 56) rfl w.heap.size (.slice (some ⟨p0, 0, none⟩) 0 0) 0 [] rfl HP0.out ua zs.length uc (ivals zs) rfl (ivals_length _) (own_src (own_below HI2.out.own hB)).1 (own_src (own_below HI2.out.own hB)).2 (ivals_one _) (by omega) (by have := hB.size; omega) ?_
                intro v2 w6 hown hgr hv2
                rw [Nat.zero_add, List.nil_append] at hown
                have hf2 : ∀ g, v2.ownBlock = some g → W2.heap.size ≤ g := fun g hg => by
                  rcases hv2 with h | h
                  · rw [h] at hg; injection hg with hg; subst hg; exact hp0
                  · rw [h] at hg; injection hg with hg; have := hB.size; omega
                have hB0 : Below W2.heap.size W2 w6 := hB.grown hgr hB.size (fun k e => by injection e with e; subst e; exact hp0)
                have HQ0 := Lib.hid (HQ.out.grown hgr (fun e => by injection e with e; exact hpq e.symm))
                obtain ⟨a2, c2, rfl⟩ := own_slice hown
                have HO57 := Lib.hid hown
                have Hv57 := Lib.hid hf2
                refine hK.out _ _ ⟨Kept.of_below hB0, ?_⟩
                clear hK K' hown hgr hv2 hf2 hB hS HQ
                have hS : Kept (· = wb) W2 w6 := Kept.of_below hB0
                have hB := hB0
                clear hB0
                have HQ := HQ0
                clear HQ0
                try go_frame
                refine nextH (i := 6) rfl (by kernel_rfl) (by kernel_rfl) (fun K' hK => ?_)
                refine wpo_appendV elI (.tmp 57) (.tmp 60) rfl w.heap.size (.slice a2 zs.length c2) zs.length (ivals zs) rfl HO57.out (some ⟨q0, 0, none⟩) 1 1 [.int .i64 o.x] rfl rfl (fun e => by cases e) (src_blk HQ.out) (by intro u hu; rcases List.mem_singleton.1 hu with rfl; rfl) (by omega) (by have := hB.size; omega) ?_
                intro v3 w7 hown hgr hv3
                have hf3 : ∀ g, v3.ownBlock = some g → W2.heap.size ≤ g := fun g hg => by
                  rcases hv3 with h | h
                  · rw [h] at hg; exact Hv57.out g hg
                  · rw [h] at hg; injection hg with hg; have := hB.size; omega
                have hB7 : Below W2.heap.size W2 w7 := hB.grown hgr hB.size (fun k e => Hv57.out k e)
                have HP := Lib.hid (HI2.out.app hB7 hown hf3)
                obtain ⟨a3, c3, rfl⟩ := own_slice hown
                refine hK.out _ _ ⟨Kept.of_below hB7, ?_⟩
                have cW := blk_one (HI2.out.Wb.below hB7 HI2.out.Wb.lt)
                have fW := (HI2.out.Wb.below hB7 HI2.out.Wb.lt).frozen 0
                clear hK K' hown hgr hv3 hf3 hB hS
                try go_frame
                refine nextH (i := 7) rfl (by kernel_rfl) (by kernel_rfl) (fun K' hK => ?_)
                go_wp2_with fail
                refine hK.out _ _ ⟨HP.out.2.2, ?_⟩
                clear hK K' cW fW hB7
                refine wpAnyH_done (by kernel_rfl) ?_ _
                go_wp2_with fail
                go_meet
                exact PxR.mk HP.out.1 Hx2.out Ho2.out (HM2.out.mono HP.out.2.1)
          · have hz : apZ z (.int .i64 o.x) = z := by unfold apZ; rw [if_neg h0]
            rw [hz] at HI2
            have h0' : (apE z == 0) = false := by simpa using h0
            clear h0 hz
            go_wp2_with fail
            go_meet
            exact PxR.mk HI2.out Hxs.out Hok.out HM2.out
        have d1 : (o.k == 1) = false := by simpa using h1
        clear h1
        by_cases h3 : o.k = 3
        · have d3 : (o.k == 3) = true := by simp [h3]
          clear h3
          go_wp2_with fail
          refine (zrsI HI1.out.z).mono ?_
          rintro e W2 ⟨rfl, hT⟩
          have HO2 := Lib.hid (hT.blk HI1.out.z HO1.out (by decide) (by decide))
          obtain ⟨v1, hi1, hko⟩ := HI1.out.zto hT
          have HI2 := Lib.hid hi1
          have HM2 := Lib.hid (HM1.out.mono hko)
          clear hT hi1 hko
          have hrel := (rel_of Hxs.out).reset Hok.out
          by_cases h0 : refI z = 0
          · have hz : rsZ z = zo0 z.size := by unfold rsZ; rw [if_pos h0]
            rw [hz] at HI2 hrel
            rw [h0]
            have Ho2 := Lib.hid hrel.2
            have cW := blk_one HI2.out.Wb
            have fW := HI2.out.Wb.frozen 0
            have HP := Lib.hid (HI2.out.setW (zs' := []) ((Kept.refl (· = wb) W2).setCell (p := ⟨wb, 0, none⟩) rfl (.slice none 0 0)) (blk_set1 HI2.out.Wb (.slice none 0 0)) (own_nil _ _ _) (fun g hg => by simp [Value.ownBlock] at hg))
            clear h0 hz hrel
            go_wp2_with fail
            go_meet
            exact PxR.mk HP.out.1 rfl Ho2.out (HM2.out.mono HP.out.2)
          · have hz : rsZ z = z := by unfold rsZ; rw [if_neg h0]
            rw [hz] at HI2
            have h0' : (refI z == 0) = false := by simpa using h0
            clear h0 hz hrel
            go_wp2_with fail
            go_meet
            exact PxR.mk HI2.out Hxs.out Hok.out HM2.out
        have d3 : (o.k == 3) = false := by simpa using h3
        clear h3
        by_cases h4 : o.k = 4
        · have d4 : (o.k == 4) = true := by simp [h4]
          clear h4
          go_wp2_with fail
          refine (zfn HI1.out.z).mono ?_
          rintro e W2 ⟨rfl, hT⟩
          have HO2 := Lib.hid (hT.blk HI1.out.z HO1.out (by decide) (by decide))
          obtain ⟨v1, hi1, hko⟩ := HI1.out.zto hT
          have HI2 := Lib.hid hi1
          have HM2 := Lib.hid (HM1.out.mono hko)
          clear hT hi1 hko
          have hrel := (rel_of Hxs.out).finish Hok.out
          have hx2 : (fnZ z).xs = ivals zs := (show (fnZ z).xs = z.xs by unfold fnZ; split <;> rfl).trans Hxs.out
          have Ho2 := Lib.hid hrel.2
          have Hx2 := Lib.hid hx2
          clear hrel hx2
          go_wp2_with fail
          go_meet
          exact PxR.mk HI2.out Hx2.out Ho2.out HM2.out
        have d4 : (o.k == 4) = false := by simpa using h4
        clear h4
        by_cases h5 : o.k = 5
        · have d5 : (o.k == 5) = true := by simp [h5]
          clear h5
          go_wp2_with fail
          refine (zfl HI1.out.z).mono ?_
          rintro e W2 ⟨rfl, hT⟩
          have HO2 := Lib.hid (hT.blk HI1.out.z HO1.out (by decide) (by decide))
          obtain ⟨v1, hi1, hko⟩ := HI1.out.zto hT
          have HI2 := Lib.hid hi1
          have HM2 := Lib.hid (HM1.out.mono hko)
          clear hT hi1 hko
          have Ho2 := Lib.hid ((rel_of Hxs.out).flush Hok.out).2
          go_wp2_with fail
          go_meet
          exact PxR.mk HI2.out Hxs.out Ho2.out HM2.out
        have d5 : (o.k == 5) = false := by simpa using h5
        clear h5
        by_cases h6 : o.k = 6
        · have d6 : (o.k == 6) = true := by simp [h6]
          clear h6
          have hcr := crZ_ok Hxs.out Hok.out o.x
          obtain ⟨n1, n2, n3⟩ := keepN_bd Hok.out o.x
          have hlz : z.xs.length = zs.length := by rw [Hxs.out, ivals_length]
          obtain ⟨sf1, sf2⟩ := Hok.out.safe
          have uc1 := (own_cap HI1.out.own).2.1
          have uc2 := (own_cap HI1.out.own).2.2
          have hx2 : (crZ z o.x).xs = ivals (zs.take (keepN z o.x)) := (show z.xs.take _ = _ by rw [Hxs.out, ivals_take])
          rw [hlz] at n1 n2 sf2
          have hl2 : (crZ z o.x).xs.length = keepN z o.x := by rw [hx2, ivals_length]; simp; omega
          have Hcr := Lib.hid (zcr o.x HI1.out.z Hok.out HI1.out.lo)
          generalize crZ z o.x = z2 at *
          generalize keepN z o.x = n at *
          have Ho2 := Lib.hid hcr
          have Hx2 := Lib.hid hx2
          have Hl2 := Lib.hid hl2
          have HN1 := Lib.hid n1
          clear hcr hlz hx2 hl2 n1
          go_wp2_with fail
          refine (Hcr.out).mono ?_
          rintro e W2 ⟨rfl, hT⟩
          have HO2 := Lib.hid (hT.blk HI1.out.z HO1.out (by decide) (by decide))
          obtain ⟨v1, hi1, hko⟩ := HI1.out.zto hT
          have HI2 := Lib.hid hi1
          have HM2 := Lib.hid (HM1.out.mono hko)
          clear hT hi1 hko
          clear Hcr
          have HWb := Lib.hid HI2.out.Wb
          have HOb := HO2
          go_upto_region 25 with fail
          refine wp_only ?_
          by_cases hfull : n < zs.length
          · refine wp_region_held (S := fun w' => Below W2.heap.size W2 w') (by kernel_rfl) ?_
            change wpAnyH _ _ _ _ _ _ _ _ (World.drew _)
            have hS : Below W2.heap.size W2 W2.drew := (Below.refl _ _).drew
            refine takeH hS (i := 0) (d := 81) (v := .pointer (some ⟨A, 0, none⟩)) rfl rfl (by kernel_rfl) (by kernel_rfl) (by kernel_rfl) (fun _ _ _ h => h) (Or.inl ⟨by kernel_rfl, fun w' hw' => by kernel_rfl⟩) ?_
            refine takeH hS (i := 2) (d := 83) (v := .int .i64 (z.safe)) rfl rfl (by kernel_rfl) (by kernel_rfl) (by kernel_rfl) (fun _ _ _ h => h) (Or.inl ⟨by kernel_rfl, fun w' hw' => by kernel_rfl⟩) ?_
            try go_frame
            refine nextH (i := 1) rfl (by kernel_rfl) (by kernel_rfl) (fun K' hK => ?_)
            go_wp2_with fail
            refine (zlenI (HI2.out.z.below hS)).mono ?_
            rintro en W2c1 ⟨rfl, hb0⟩
            have hb := below_eq hb0
            clear hb0
            have hS1 : Below W2.heap.size W2 W2c1 := bel_next hS hb
            refine hK.out _ _ ⟨hS1, ?_⟩
            clear hK K' hb hS
            refine takeH hS1 (i := 3) (d := 84) (v := .bool false) rfl rfl (by kernel_rfl) (by kernel_rfl) (by kernel_rfl) (fun _ _ _ h => h) (Or.inl ⟨by kernel_rfl, fun w' hw' => by exact exec_lss _ _ rfl ((z2.xs.length : Nat)) (z.safe) rfl rfl false (decide_eq_false (by have := Hl2.out; have := HN1.out; omega)) rfl⟩) ?_
            refine takeH hS1 (i := 4) (d := 85) (v := .bool false) rfl rfl (by kernel_rfl) (by kernel_rfl) (by kernel_rfl) (fun _ _ _ h => h) (Or.inl ⟨by kernel_rfl, fun w' hw' => by kernel_rfl⟩) ?_
            refine takeH hS1 (i := 5) (d := 86) (v := .pointer (some ⟨A, 0, none⟩)) rfl rfl (by kernel_rfl) (by kernel_rfl) (by kernel_rfl) (fun _ _ _ h => h) (Or.inl ⟨by kernel_rfl, fun w' hw' => by kernel_rfl⟩) ?_
            refine takeH hS1 (i := 7) (d := 88) (v := .slice (ua) (zs.length) (uc)) rfl rfl (by kernel_rfl) (by kernel_rfl) (by kernel_rfl) (fun _ _ _ h => h) (Or.inl ⟨by kernel_rfl, fun w' hw' => by exact exec_cellv _ rfl ⟨wb, 0, none⟩ rfl (.slice (ua) (zs.length) (uc)) Try.underlying28 rfl (((HWb.out.below hw' HWb.out.lt).cell 0).trans (rfl))⟩) ?_
            try go_frame
            refine takeH hS1 (i := 8) (d := 89) (v := .int .i64 ((zs.length : Nat))) rfl rfl (by kernel_rfl) (by kernel_rfl) (by kernel_rfl) (fun _ _ _ h => h) (Or.inl ⟨by kernel_rfl, fun w' hw' => by exact exec_len _ rfl Try.underlying28 _ _ _ rfl⟩) ?_
            try go_frame
            refine nextH (i := 6) rfl (by kernel_rfl) (by kernel_rfl) (fun K' hK => ?_)
            go_wp2_with fail
            refine (zlenI (HI2.out.z.below hS1)).mono ?_
            rintro en W2c2 ⟨rfl, hb0⟩
            have hb := below_eq hb0
            clear hb0
            have hS2 : Below W2.heap.size W2 W2c2 := bel_next hS1 hb
            refine hK.out _ _ ⟨hS2, ?_⟩
            clear hK K' hb hS1
            refine takeH hS2 (i := 9) (d := 90) (v := .bool false) rfl rfl (by kernel_rfl) (by kernel_rfl) (by kernel_rfl) (fun _ _ _ h => h) (Or.inl ⟨by kernel_rfl, fun w' hw' => by exact exec_gtr _ _ rfl ((z2.xs.length : Nat)) ((zs.length : Nat)) rfl rfl false (decide_eq_false (by have := Hl2.out; have := HN1.out; omega)) rfl⟩) ?_
            refine takeH hS2 (i := 10) (d := 91) (v := .bool false) rfl rfl (by kernel_rfl) (by kernel_rfl) (by kernel_rfl) (fun _ _ _ h => h) (Or.inl ⟨by kernel_rfl, fun w' hw' => by kernel_rfl⟩) ?_
            refine takeH hS2 (i := 11) (d := 92) (v := .bool false) rfl rfl (by kernel_rfl) (by kernel_rfl) (by kernel_rfl) (fun _ _ _ h => h) (Or.inl ⟨by kernel_rfl, fun w' hw' => by kernel_rfl⟩) ?_
            refine takeH hS2 (i := 12) (d := 93) (v := .pointer (some ⟨A, 0, none⟩)) rfl rfl (by kernel_rfl) (by kernel_rfl) (by kernel_rfl) (fun _ _ _ h => h) (Or.inl ⟨by kernel_rfl, fun w' hw' => by kernel_rfl⟩) ?_
            try go_frame
            refine takeH hS2 (i := 14) (d := 95) (v := .slice (ua) (zs.length) (uc)) rfl rfl (by kernel_rfl) (by kernel_rfl) (by kernel_rfl) (fun _ _ _ h => h) (Or.inl ⟨by kernel_rfl, fun w' hw' => by exact exec_cellv _ rfl ⟨wb, 0, none⟩ rfl (.slice (ua) (zs.length) (uc)) Try.underlying28 rfl (((HWb.out.below hw' HWb.out.lt).cell 0).trans (rfl))⟩) ?_
            refine takeH hS2 (i := 15) (d := 96) (v := .int .i64 ((zs.length : Nat))) rfl rfl (by kernel_rfl) (by kernel_rfl) (by kernel_rfl) (fun _ _ _ h => h) (Or.inl ⟨by kernel_rfl, fun w' hw' => by exact exec_len _ rfl Try.underlying28 _ _ _ rfl⟩) ?_
            try go_frame
            refine nextH (i := 13) rfl (by kernel_rfl) (by kernel_rfl) (fun K' hK => ?_)
            go_wp2_with fail
            refine (zlenI (HI2.out.z.below hS2)).mono ?_
            rintro en W2c3 ⟨rfl, hb0⟩
            have hb := below_eq hb0
            clear hb0
            have hS3 : Below W2.heap.size W2 W2c3 := bel_next hS2 hb
            refine hK.out _ _ ⟨hS3, ?_⟩
            clear hK K' hb hS2
            refine takeH hS3 (i := 16) (d := 97) (v := .bool true) rfl rfl (by kernel_rfl) (by kernel_rfl) (by kernel_rfl) (fun _ _ _ h => h) (Or.inl ⟨by kernel_rfl, fun w' hw' => by exact exec_lss _ _ rfl ((z2.xs.length : Nat)) ((zs.length : Nat)) rfl rfl true (decide_eq_true (by have := Hl2.out; have := HN1.out; omega)) rfl⟩) ?_
            refine takeH hS3 (i := 17) (d := 98) (v := .bool true) rfl rfl (by kernel_rfl) (by kernel_rfl) (by kernel_rfl) (fun _ _ _ h => h) (Or.inl ⟨by kernel_rfl, fun w' hw' => by kernel_rfl⟩) ?_
            refine takeH hS3 (i := 18) (d := 99) (v := .pointer (some ⟨A, 0, none⟩)) rfl rfl (by kernel_rfl) (by kernel_rfl) (by kernel_rfl) (fun _ _ _ h => h) (Or.inl ⟨by kernel_rfl, fun w' hw' => by kernel_rfl⟩) ?_
            refine takeH hS3 (i := 20) (d := 101) (v := .int .i64 (z.safe)) rfl rfl (by kernel_rfl) (by kernel_rfl) (by kernel_rfl) (fun _ _ _ h => h) (Or.inl ⟨by kernel_rfl, fun w' hw' => by kernel_rfl⟩) ?_
            try go_frame
            refine takeH hS3 (i := 21) (d := 102) (v := .pointer (some ⟨ob, 1, none⟩)) rfl rfl (by kernel_rfl) (by kernel_rfl) (by kernel_rfl) (fun _ _ _ h => h) (Or.inl ⟨by kernel_rfl, fun w' hw' => by kernel_rfl⟩) ?_
            refine takeH hS3 (i := 22) (d := 103) (v := .int .i64 (o.x)) rfl rfl (by kernel_rfl) (by kernel_rfl) (by kernel_rfl) (fun _ _ _ h => h) (Or.inl ⟨by kernel_rfl, fun w' hw' => by exact exec_cell _ rfl ⟨ob, 1, none⟩ rfl _ Try.underlying3 (((HOb.out.below hw' HOb.out.lt).cell 1).trans (rfl))⟩) ?_
            refine takeH hS3 (i := 23) (d := 104) (v := .int .i64 (max o.x 0)) rfl rfl (by kernel_rfl) (by kernel_rfl) (by kernel_rfl) (fun _ _ _ h => h) (Or.inl ⟨by kernel_rfl, fun w' hw' => by exact exec_max _ _ _ rfl (o.x) (0) (max o.x 0) rfl rfl (rfl)⟩) ?_
            refine takeH hS3 (i := 24) (d := 105) (v := .int .i64 ((n : Int))) rfl rfl (by kernel_rfl) (by kernel_rfl) (by kernel_rfl) (fun _ _ _ h => h) (Or.inl ⟨by kernel_rfl, fun w' hw' => by exact exec_add _ _ rfl (z.safe) (max o.x 0) ((n : Int)) rfl rfl (by have := HN1.out; omega) (by omega)⟩) ?_
            try go_frame
            refine nextH (i := 19) rfl (by kernel_rfl) (by kernel_rfl) (fun K' hK => ?_)
            go_wp2_with fail
            refine (zlenI (HI2.out.z.below hS3)).mono ?_
            rintro en W2c4 ⟨rfl, hb0⟩
            have hb := below_eq hb0
            clear hb0
            have hS4 : Below W2.heap.size W2 W2c4 := bel_next hS3 hb
            refine hK.out _ _ ⟨hS4, ?_⟩
            clear hK K' hb hS3
            refine takeH hS4 (i := 25) (d := 106) (v := .bool false) rfl rfl (by kernel_rfl) (by kernel_rfl) (by kernel_rfl) (fun _ _ _ h => h) (Or.inl ⟨by kernel_rfl, fun w' hw' => by exact exec_gtr _ _ rfl ((z2.xs.length : Nat)) ((n : Int)) rfl rfl false (decide_eq_false (by have := Hl2.out; have := HN1.out; omega)) rfl⟩) ?_
            refine takeH hS4 (i := 26) (d := 107) (v := .bool false) rfl rfl (by kernel_rfl) (by kernel_rfl) (by kernel_rfl) (fun _ _ _ h => h) (Or.inl ⟨by kernel_rfl, fun w' hw' => by kernel_rfl⟩) ?_
            refine takeH hS4 (i := 27) (d := 108) (v := .bool false) rfl rfl (by kernel_rfl) (by kernel_rfl) (by kernel_rfl) (fun _ _ _ h => h) (Or.inl ⟨by kernel_rfl, fun w' hw' => by kernel_rfl⟩) ?_
            refine wpAnyH_done (by kernel_rfl) ?_ _
            try go_frame
            have HI3 := Lib.hid (HI2.out.below hS4)
            have HM3 := Lib.hid (HM2.out.mono (keepsOthers_below hS4))
            clear hS4 HWb HOb
            go_upto_region 27 with fail
            refine wp_only ?_
            refine wp_region_held (S := fun w' => Kept (· = wb) W2c4 w') (by kernel_rfl) ?_
            change wpAnyH _ _ _ _ _ _ _ _ (World.drew _)
            have hS : Kept (· = wb) W2c4 W2c4.drew := (Kept.refl _ _).drew
            have hB : Below W2c4.heap.size W2c4 W2c4.drew := (Below.refl _ _).drew
            generalize W2c4.drew = wd at *
            refine takeH hS (i := 1) (d := 110) (v := .pointer (some ⟨A, 0, none⟩)) rfl rfl (by kernel_rfl) (by kernel_rfl) (by kernel_rfl) (fun _ _ _ h => h) (Or.inl ⟨by kernel_rfl, fun w' hw' => by kernel_rfl⟩) ?_
            try go_frame
            refine nextH2 (i := 0) (k := 2) rfl rfl (by kernel_rfl) (by kernel_rfl) (by kernel_rfl) (fun K' hK => ?_) (fun K' hK => ?_)
            · have cW := blk_one (HI3.out.Wb.below hB HI3.out.Wb.lt)
              go_wp2_with fail
              refine hK.out _ _ ⟨hS, ?_⟩
              clear hK K' cW
              try go_frame
              refine nextH (i := 2) rfl (by kernel_rfl) (by kernel_rfl) (fun K' hK => ?_)
              go_wp2_with fail
              refine (zlenI (HI3.out.z.below hB)).mono ?_
              rintro en wx ⟨rfl, rfl⟩
              rw [Hl2.out]
              refine hK.out _ _ ⟨hS, ?_⟩
              clear hK K'
              try go_frame
              refine takeH hS (i := 3) (d := 112) (v := .slice ua n uc) rfl rfl (by kernel_rfl) (by kernel_rfl) (by kernel_rfl) (fun _ _ _ h => h) (Or.inl ⟨by kernel_rfl, fun w' hw' => by exact exec_sliceTo elI _ _ rfl ua zs.length uc n rfl rfl (by omega) uc2⟩) ?_
              try go_frame
              have HP := Lib.hid (HI3.out.cut hB n2)
              have cW := blk_one (HI3.out.Wb.below hB HI3.out.Wb.lt)
              have fW := (HI3.out.Wb.below hB HI3.out.Wb.lt).frozen 0
              refine nextH (i := 4) rfl (by kernel_rfl) (by kernel_rfl) (fun K' hK => ?_)
              go_wp2_with fail
              refine hK.out _ _ ⟨HP.out.2.2, ?_⟩
              clear hK K' cW fW hB hS
              refine wpAnyH_done (by kernel_rfl) ?_ _
              go_wp2_with fail
              go_meet
              exact PxR.mk HP.out.1 Hx2.out Ho2.out (HM3.out.mono HP.out.2.1)
            · go_wp2_with fail
              refine (zlenI (HI3.out.z.below hB)).mono ?_
              rintro en wx ⟨rfl, rfl⟩
              rw [Hl2.out]
              refine hK.out _ _ ⟨hS, ?_⟩
              clear hK K'
              try go_frame
              refine nextH (i := 0) rfl (by kernel_rfl) (by kernel_rfl) (fun K' hK => ?_)
              have cW := blk_one (HI3.out.Wb.below hB HI3.out.Wb.lt)
              go_wp2_with fail
              refine hK.out _ _ ⟨hS, ?_⟩
              clear hK K' cW
              try go_frame
              refine takeH hS (i := 3) (d := 112) (v := .slice ua n uc) rfl rfl (by kernel_rfl) (by kernel_rfl) (by kernel_rfl) (fun _ _ _ h => h) (Or.inl ⟨by kernel_rfl, fun w' hw' => by exact exec_sliceTo elI _ _ rfl ua zs.length uc n rfl rfl (by omega) uc2⟩) ?_
              try go_frame
              have HP := Lib.hid (HI3.out.cut hB n2)
              have cW := blk_one (HI3.out.Wb.below hB HI3.out.Wb.lt)
              have fW := (HI3.out.Wb.below hB HI3.out.Wb.lt).frozen 0
              refine nextH (i := 4) rfl (by kernel_rfl) (by kernel_rfl) (fun K' hK => ?_)
              go_wp2_with fail
              refine hK.out _ _ ⟨HP.out.2.2, ?_⟩
              clear hK K' cW fW hB hS
              refine wpAnyH_done (by kernel_rfl) ?_ _
              go_wp2_with fail
              go_meet
              exact PxR.mk HP.out.1 Hx2.out Ho2.out (HM3.out.mono HP.out.2.1)
          · refine wp_region_held (S := fun w' => Below W2.heap.size W2 w') (by kernel_rfl) ?_
            change wpAnyH _ _ _ _ _ _ _ _ (World.drew _)
            have hS : Below W2.heap.size W2 W2.drew := (Below.refl _ _).drew
            refine takeH hS (i := 0) (d := 81) (v := .pointer (some ⟨A, 0, none⟩)) rfl rfl (by kernel_rfl) (by kernel_rfl) (by kernel_rfl) (fun _ _ _ h => h) (Or.inl ⟨by kernel_rfl, fun w' hw' => by kernel_rfl⟩) ?_
            refine takeH hS (i := 2) (d := 83) (v := .int .i64 (z.safe)) rfl rfl (by kernel_rfl) (by kernel_rfl) (by kernel_rfl) (fun _ _ _ h => h) (Or.inl ⟨by kernel_rfl, fun w' hw' => by kernel_rfl⟩) ?_
            try go_frame
            refine nextH (i := 1) rfl (by kernel_rfl) (by kernel_rfl) (fun K' hK => ?_)
            go_wp2_with fail
            refine (zlenI (HI2.out.z.below hS)).mono ?_
            rintro en W2c1 ⟨rfl, hb0⟩
            have hb := below_eq hb0
            clear hb0
            have hS1 : Below W2.heap.size W2 W2c1 := bel_next hS hb
            refine hK.out _ _ ⟨hS1, ?_⟩
            clear hK K' hb hS
            refine takeH hS1 (i := 3) (d := 84) (v := .bool false) rfl rfl (by kernel_rfl) (by kernel_rfl) (by kernel_rfl) (fun _ _ _ h => h) (Or.inl ⟨by kernel_rfl, fun w' hw' => by exact exec_lss _ _ rfl ((z2.xs.length : Nat)) (z.safe) rfl rfl false (decide_eq_false (by have := Hl2.out; have := HN1.out; omega)) rfl⟩) ?_
            refine takeH hS1 (i := 4) (d := 85) (v := .bool false) rfl rfl (by kernel_rfl) (by kernel_rfl) (by kernel_rfl) (fun _ _ _ h => h) (Or.inl ⟨by kernel_rfl, fun w' hw' => by kernel_rfl⟩) ?_
            refine takeH hS1 (i := 5) (d := 86) (v := .pointer (some ⟨A, 0, none⟩)) rfl rfl (by kernel_rfl) (by kernel_rfl) (by kernel_rfl) (fun _ _ _ h => h) (Or.inl ⟨by kernel_rfl, fun w' hw' => by kernel_rfl⟩) ?_
            refine takeH hS1 (i := 7) (d := 88) (v := .slice (ua) (zs.length) (uc)) rfl rfl (by kernel_rfl) (by kernel_rfl) (by kernel_rfl) (fun _ _ _ h => h) (Or.inl ⟨by kernel_rfl, fun w' hw' => by exact exec_cellv _ rfl ⟨wb, 0, none⟩ rfl (.slice (ua) (zs.length) (uc)) Try.underlying28 rfl (((HWb.out.below hw' HWb.out.lt).cell 0).trans (rfl))⟩) ?_
            try go_frame
            refine takeH hS1 (i := 8) (d := 89) (v := .int .i64 ((zs.length : Nat))) rfl rfl (by kernel_rfl) (by kernel_rfl) (by kernel_rfl) (fun _ _ _ h => h) (Or.inl ⟨by kernel_rfl, fun w' hw' => by exact exec_len _ rfl Try.underlying28 _ _ _ rfl⟩) ?_
            try go_frame
            refine nextH (i := 6) rfl (by kernel_rfl) (by kernel_rfl) (fun K' hK => ?_)
            go_wp2_with fail
            refine (zlenI (HI2.out.z.below hS1)).mono ?_
            rintro en W2c2 ⟨rfl, hb0⟩
            have hb := below_eq hb0
            clear hb0
            have hS2 : Below W2.heap.size W2 W2c2 := bel_next hS1 hb
            refine hK.out _ _ ⟨hS2, ?_⟩
            clear hK K' hb hS1
            refine takeH hS2 (i := 9) (d := 90) (v := .bool false) rfl rfl (by kernel_rfl) (by kernel_rfl) (by kernel_rfl) (fun _ _ _ h => h) (Or.inl ⟨by kernel_rfl, fun w' hw' => by exact exec_gtr _ _ rfl ((z2.xs.length : Nat)) ((zs.length : Nat)) rfl rfl false (decide_eq_false (by have := Hl2.out; have := HN1.out; omega)) rfl⟩) ?_
            refine takeH hS2 (i := 10) (d := 91) (v := .bool false) rfl rfl (by kernel_rfl) (by kernel_rfl) (by kernel_rfl) (fun _ _ _ h => h) (Or.inl ⟨by kernel_rfl, fun w' hw' => by kernel_rfl⟩) ?_
            refine takeH hS2 (i := 11) (d := 92) (v := .bool false) rfl rfl (by kernel_rfl) (by kernel_rfl) (by kernel_rfl) (fun _ _ _ h => h) (Or.inl ⟨by kernel_rfl, fun w' hw' => by kernel_rfl⟩) ?_
            refine takeH hS2 (i := 12) (d := 93) (v := .pointer (some ⟨A, 0, none⟩)) rfl rfl (by kernel_rfl) (by kernel_rfl) (by kernel_rfl) (fun _ _ _ h => h) (Or.inl ⟨by kernel_rfl, fun w' hw' => by kernel_rfl⟩) ?_
            try go_frame
            refine takeH hS2 (i := 14) (d := 95) (v := .slice (ua) (zs.length) (uc)) rfl rfl (by kernel_rfl) (by kernel_rfl) (by kernel_rfl) (fun _ _ _ h => h) (Or.inl ⟨by kernel_rfl, fun w' hw' => by exact exec_cellv _ rfl ⟨wb, 0, none⟩ rfl (.slice (ua) (zs.length) (uc)) Try.underlying28 rfl (((HWb.out.below hw' HWb.out.lt).cell 0).trans (rfl))⟩) ?_
            refine takeH hS2 (i := 15) (d := 96) (v := .int .i64 ((zs.length : Nat))) rfl rfl (by kernel_rfl) (by kernel_rfl) (by kernel_rfl) (fun _ _ _ h => h) (Or.inl ⟨by kernel_rfl, fun w' hw' => by exact exec_len _ rfl Try.underlying28 _ _ _ rfl⟩) ?_
            try go_frame
            refine nextH (i := 13) rfl (by kernel_rfl) (by kernel_rfl) (fun K' hK => ?_)
            go_wp2_with fail
            refine (zlenI (HI2.out.z.below hS2)).mono ?_
            rintro en W2c3 ⟨rfl, hb0⟩
            have hb := below_eq hb0
            clear hb0
            have hS3 : Below W2.heap.size W2 W2c3 := bel_next hS2 hb
            refine hK.out _ _ ⟨hS3, ?_⟩
            clear hK K' hb hS2
            refine takeH hS3 (i := 16) (d := 97) (v := .bool false) rfl rfl (by kernel_rfl) (by kernel_rfl) (by kernel_rfl) (fun _ _ _ h => h) (Or.inl ⟨by kernel_rfl, fun w' hw' => by exact exec_lss _ _ rfl ((z2.xs.length : Nat)) ((zs.length : Nat)) rfl rfl false (decide_eq_false (by have := Hl2.out; have := HN1.out; omega)) rfl⟩) ?_
            refine takeH hS3 (i := 17) (d := 98) (v := .bool false) rfl rfl (by kernel_rfl) (by kernel_rfl) (by kernel_rfl) (fun _ _ _ h => h) (Or.inl ⟨by kernel_rfl, fun w' hw' => by kernel_rfl⟩) ?_
            refine takeH hS3 (i := 18) (d := 99) (v := undef) rfl rfl (by kernel_rfl) (by kernel_rfl) (by kernel_rfl) (fun _ _ _ h => h) (Or.inr ⟨by kernel_rfl, rfl⟩) ?_
            refine takeH hS3 (i := 19) (d := 100) (v := undef) rfl rfl (by kernel_rfl) (by kernel_rfl) (by kernel_rfl) (fun _ _ _ h => h) (Or.inr ⟨by kernel_rfl, rfl⟩) ?_
            try go_frame
            refine takeH hS3 (i := 20) (d := 101) (v := undef) rfl rfl (by kernel_rfl) (by kernel_rfl) (by kernel_rfl) (fun _ _ _ h => h) (Or.inr ⟨by kernel_rfl, rfl⟩) ?_
            refine takeH hS3 (i := 21) (d := 102) (v := undef) rfl rfl (by kernel_rfl) (by kernel_rfl) (by kernel_rfl) (fun _ _ _ h => h) (Or.inr ⟨by kernel_rfl, rfl⟩) ?_
            refine takeH hS3 (i := 22) (d := 103) (v := undef) rfl rfl (by kernel_rfl) (by kernel_rfl) (by kernel_rfl) (fun _ _ _ h => h) (Or.inr ⟨by kernel_rfl, rfl⟩) ?_
            refine takeH hS3 (i := 23) (d := 104) (v := undef) rfl rfl (by kernel_rfl) (by kernel_rfl) (by kernel_rfl) (fun _ _ _ h => h) (Or.inr ⟨by kernel_rfl, rfl⟩) ?_
            try go_frame
            refine takeH hS3 (i := 24) (d := 105) (v := undef) rfl rfl (by kernel_rfl) (by kernel_rfl) (by kernel_rfl) (fun _ _ _ h => h) (Or.inr ⟨by kernel_rfl, rfl⟩) ?_
            refine takeH hS3 (i := 25) (d := 106) (v := undef) rfl rfl (by kernel_rfl) (by kernel_rfl) (by kernel_rfl) (fun _ _ _ h => h) (Or.inr ⟨by kernel_rfl, rfl⟩) ?_
            refine takeH hS3 (i := 26) (d := 107) (v := .bool false) rfl rfl (by kernel_rfl) (by kernel_rfl) (by kernel_rfl) (fun _ _ _ h => h) (Or.inl ⟨by kernel_rfl, fun w' hw' => by kernel_rfl⟩) ?_
            refine takeH hS3 (i := 27) (d := 108) (v := .bool false) rfl rfl (by kernel_rfl) (by kernel_rfl) (by kernel_rfl) (fun _ _ _ h => h) (Or.inl ⟨by kernel_rfl, fun w' hw' => by kernel_rfl⟩) ?_
            try go_frame
            refine wpAnyH_done (by kernel_rfl) ?_ _
            try go_frame
            have HI3 := Lib.hid (HI2.out.below hS3)
            have HM3 := Lib.hid (HM2.out.mono (keepsOthers_below hS3))
            clear hS3 HWb HOb
            go_upto_region 27 with fail
            refine wp_only ?_
            refine wp_region_held (S := fun w' => Kept (· = wb) W2c3 w') (by kernel_rfl) ?_
            change wpAnyH _ _ _ _ _ _ _ _ (World.drew _)
            have hS : Kept (· = wb) W2c3 W2c3.drew := (Kept.refl _ _).drew
            have hB : Below W2c3.heap.size W2c3 W2c3.drew := (Below.refl _ _).drew
            generalize W2c3.drew = wd at *
            refine takeH hS (i := 1) (d := 110) (v := .pointer (some ⟨A, 0, none⟩)) rfl rfl (by kernel_rfl) (by kernel_rfl) (by kernel_rfl) (fun _ _ _ h => h) (Or.inl ⟨by kernel_rfl, fun w' hw' => by kernel_rfl⟩) ?_
            try go_frame
            refine nextH2 (i := 0) (k := 2) rfl rfl (by kernel_rfl) (by kernel_rfl) (by kernel_rfl) (fun K' hK => ?_) (fun K' hK => ?_)
            · have cW := blk_one (HI3.out.Wb.below hB HI3.out.Wb.lt)
              go_wp2_with fail
              refine hK.out _ _ ⟨hS, ?_⟩
              clear hK K' cW
              try go_frame
              refine nextH (i := 2) rfl (by kernel_rfl) (by kernel_rfl) (fun K' hK => ?_)
              go_wp2_with fail
              refine (zlenI (HI3.out.z.below hB)).mono ?_
              rintro en wx ⟨rfl, rfl⟩
              rw [Hl2.out]
              refine hK.out _ _ ⟨hS, ?_⟩
              clear hK K'
              try go_frame
              refine takeH hS (i := 3) (d := 112) (v := .slice ua n uc) rfl rfl (by kernel_rfl) (by kernel_rfl) (by kernel_rfl) (fun _ _ _ h => h) (Or.inl ⟨by kernel_rfl, fun w' hw' => by exact exec_sliceTo elI _ _ rfl ua zs.length uc n rfl rfl (by omega) uc2⟩) ?_
              try go_frame
              have HP := Lib.hid (HI3.out.cut hB n2)
              have cW := blk_one (HI3.out.Wb.below hB HI3.out.Wb.lt)
              have fW := (HI3.out.Wb.below hB HI3.out.Wb.lt).frozen 0
              refine nextH (i := 4) rfl (by kernel_rfl) (by kernel_rfl) (fun K' hK => ?_)
              go_wp2_with fail
              refine hK.out _ _ ⟨HP.out.2.2, ?_⟩
              clear hK K' cW fW hB hS
              refine wpAnyH_done (by kernel_rfl) ?_ _
              go_wp2_with fail
              go_meet
              exact PxR.mk HP.out.1 Hx2.out Ho2.out (HM3.out.mono HP.out.2.1)
            · go_wp2_with fail
              refine (zlenI (HI3.out.z.below hB)).mono ?_
              rintro en wx ⟨rfl, rfl⟩
              rw [Hl2.out]
              refine hK.out _ _ ⟨hS, ?_⟩
              clear hK K'
              try go_frame
              refine nextH (i := 0) rfl (by kernel_rfl) (by kernel_rfl) (fun K' hK => ?_)
              have cW := blk_one (HI3.out.Wb.below hB HI3.out.Wb.lt)
              go_wp2_with fail
              refine hK.out _ _ ⟨hS, ?_⟩
              clear hK K' cW
              try go_frame
              refine takeH hS (i := 3) (d := 112) (v := .slice ua n uc) rfl rfl (by kernel_rfl) (by kernel_rfl) (by kernel_rfl) (fun _ _ _ h => h) (Or.inl ⟨by kernel_rfl, fun w' hw' => by exact exec_sliceTo elI _ _ rfl ua zs.length uc n rfl rfl (by omega) uc2⟩) ?_
              try go_frame
              have HP := Lib.hid (HI3.out.cut hB n2)
              have cW := blk_one (HI3.out.Wb.below hB HI3.out.Wb.lt)
              have fW := (HI3.out.Wb.below hB HI3.out.Wb.lt).frozen 0
              refine nextH (i := 4) rfl (by kernel_rfl) (by kernel_rfl) (fun K' hK => ?_)
              go_wp2_with fail
              refine hK.out _ _ ⟨HP.out.2.2, ?_⟩
              clear hK K' cW fW hB hS
              refine wpAnyH_done (by kernel_rfl) ?_ _
              go_wp2_with fail
              go_meet
              exact PxR.mk HP.out.1 Hx2.out Ho2.out (HM3.out.mono HP.out.2.1)
        have d6 : (o.k == 6) = false := by simpa using h6
        clear h6
        by_cases h7 : o.k = 7
        · have d7 : (o.k == 7) = true := by simp [h7]
          clear h7
          go_wp2_with fail
          refine (zfa o.x HI1.out.z).mono ?_
          rintro e W2 ⟨rfl, hT⟩
          have HO2 := Lib.hid (hT.blk HI1.out.z HO1.out (by decide) (by decide))
          obtain ⟨v1, hi1, hko⟩ := HI1.out.zto hT
          have HI2 := Lib.hid hi1
          have HM2 := Lib.hid (HM1.out.mono hko)
          clear hT hi1 hko
          have hx2 : (faZ z o.x).xs = ivals zs := (show (faZ z o.x).xs = z.xs by unfold faZ; split <;> rfl).trans Hxs.out
          have Ho2 := Lib.hid ((rel_of Hxs.out).fail Hok.out o.x).2
          have Hx2 := Lib.hid hx2
          clear hx2
          go_wp2_with fail
          go_meet
          exact PxR.mk HI2.out Hx2.out Ho2.out HM2.out
        have d7 : (o.k == 7) = false := by simpa using h7
        clear h7
        go_wp2_with fail
        go_meet
        exact PxR.mk HI1.out Hxs.out Hok.out HM1.out
      case rest =>
        clear HI1 HM1 HO1 c0 c1 Hxs Hok
        obtain ⟨v, uw, z, zs, hI, hxs, hok, hM⟩ := hcut
        obtain ⟨ua, uc, rfl⟩ := own_slice hI.own
        have uc2 := (own_cap hI.own).2
        unfold maxLen at uc2
        obtain ⟨uc1, uc2⟩ := uc2
        have hlz : z.xs.length = zs.length := by rw [hxs, ivals_length]
        have hzl : z.xs.length ≤ 64 := by have h1 := hok.len; have h2 := hok.size.2; omega
        obtain ⟨sf1, sf2⟩ := hok.safe
        rw [hlz] at sf2
        go_upto_region 31 with fail
        have hI0 := hI.below (below_alloc wc (Obj.cells #[.int .i64 0] 3))
        have hN0 := Blk.new wc 3 #[.int .i64 0]
        have hM0 := hM.mono (KeepsOthers.alloc wc (Obj.cells #[.int .i64 0] 3))
        have hzn : ∀ i, ZF A v i → i ≠ wc.heap.size := fun i hi => by have := hI.z.lt hi; omega
        have hun : ∀ g, (Value.slice ua zs.length uc).ownBlock = some g → g ≠ wc.heap.size := fun g hg => by have := own_lt hI.own hg; omega
        have hXn : wb ≠ wc.heap.size := Nat.ne_of_lt hI.Wb.lt
        have hmn : w.heap.size < wc.heap.size := hI.R.lt
        have Hzn := Lib.hid hzn
        have Hun := Lib.hid hun
        have HI0 := Lib.hid hI0
        have HN0 := Lib.hid hN0
        have HM0 := Lib.hid hM0
        have Hxs := Lib.hid hxs
        have Hok := Lib.hid hok
        have Hlz := Lib.hid hlz
        clear hI0 hN0 hM0 hzn hun hI hM hxs hok hlz
        generalize wc.alloc (Obj.cells #[.int .i64 0] 3) = V0 at *
        generalize wc.heap.size = nb at *
        go_wp2_with fail
        refine (all_any _).mono ?_
        rintro e w2 ⟨rfl, rfl⟩
        have hB := Blk.new V0 24 #[.pointer (some ⟨A, 0, none⟩)]
        have hS := HI0.out.below (below_alloc V0 (Obj.cells #[.pointer (some ⟨A, 0, none⟩)] 24))
        have hN := HN0.out.alloc (Obj.cells #[.pointer (some ⟨A, 0, none⟩)] 24)
        have hM2 := HM0.out.mono (KeepsOthers.alloc V0 (Obj.cells #[.pointer (some ⟨A, 0, none⟩)] 24))
        clear HI0 HN0 HM0
        go_wp2_with fail
        generalize V0.heap.size = bp at *
        generalize V0.alloc (Obj.cells #[.pointer (some ⟨A, 0, none⟩)] 24) = V6 at *
        refine wp_rangeK (N := zs.length) (w0 := V6) rfl (enters_of Try.func38 (by kernel_rfl) rfl) (all_gives 7 (by decide) V6 hS.z Hxs.out hzl hB) (fun h k => h.trans k) (KpRow.put (fun g hg => hS.z.lt (.inr hg))) (Below.refl _ _) (fun _ => rfl)
          (fun pre W => PxI w A wb v (.slice ua zs.length uc) z zs W ∧ (Blk W nb 3 #[.int .i64 (pre.length : Int)] ∧ (Marks w.heap.size ds W ∧ V6.heap.size ≤ W.heap.size))) (fun c pre _ => c = .ret ∧ ¬ pre <+: numb zs zs.length)
          (OwnFrom.and (PxI.ownF hS.B.size) (OwnFrom.and (Own.from (blk_own _ _ (fun pre : List (Nat × Int) => #[.int .i64 (pre.length : Int)])) _) (ownFrom_marks hM2 (Nat.le_refl _)))) (fun c => ownFrom_pure' (fun pre => c = .ret ∧ ¬ pre <+: numb zs zs.length)) ⟨hS, by simpa using hN, hM2, Nat.le_refl _⟩ ?a1 ?assign ?body ?done ?stop
        case assign =>
          intro l x W K hK
          unfold encP
          gi_wp2
          exact hK
        case stop =>
          rintro D c pre W hD hp ⟨rfl, hn⟩ _
          exact absurd hp hn
        case body =>
          rintro l pre x W ⟨hI, hNb, hM, hW⟩ hpl
          have cN := blk_one hNb
          have fN := hNb.frozen 0
          have cW := blk_one hI.Wb
          have cR := blk_one hI.R
          have fR := hI.R.frozen 0
          obtain ⟨i, y⟩ := x
          have hl64 : (pre.length : Int) < 64 := by have := Hlz.out; omega
          have HM0 := Lib.hid hM
          have HW0 := Lib.hid hW
          by_cases hi : i < zs.length
          · obtain ⟨gr, rfl, _, _, hg3, _⟩ := own_at hI.own i hi
            rw [ivals_at zs i hi] at hg3
            by_cases hy : y = zs.getD i 0
            · rw [← hy] at hg3
              have HP := Lib.hid (hI.set hmn hXn Hzn.out Hun.out (.int .i64 ((pre.length : Int) + 1)))
              have HPN := Lib.hid (blk_set1 hNb (.int .i64 ((pre.length : Int) + 1)))
              have HKp : Hid (KpRow v W (W.setCell ⟨nb, 0, none⟩ (.int .i64 ((pre.length : Int) + 1)))) := Lib.hid (KpRow.set _ (fun e => Hzn.out _ (.inr e) rfl))
              have HKo := Lib.hid (KeepsOthers.setCell W ⟨nb, 0, none⟩ (.int .i64 ((pre.length : Int) + 1)))
              clear hy hI hNb hM hW hS hN hM2 hB
              gi_wp2
              exact ⟨HKo.out, HKp.out, HP.out, by rw [List.length_append]; exact HPN.out, HM0.out.mono HKo.out, Nat.le_trans HW0.out HKo.out.size⟩
            · have e1 : (zs.getD i 0 != y) = true := by simpa using fun e => hy e.symm
              have hzp : ∀ hp : pre ++ [(i, y)] <+: numb zs zs.length, False := fun hp => hy (by have h := numb_get hp; injection h with h1 h2; rw [h1]; exact h2)
              have HNp := Lib.hid hzp
              generalize zs.getD i 0 = Y at *
              clear hy hI hNb hM hW hS hN hM2 hB hzp
              gi_wp2
              exact ⟨KeepsOthers.setCell _ _ _, rfl, HNp.out⟩
          · have e1 : decide (zs.length ≤ i) = true := decide_eq_true (by omega)
            have hzp : ∀ hp : pre ++ [(i, y)] <+: numb zs zs.length, False := fun hp => by have h := numb_get hp; injection h with h1 h2; omega
            have HNp := Lib.hid hzp
            have hi' : zs.length ≤ i := by omega
            clear hi hI hNb hM hW hS hN hM2 hB hzp
            gi_wp2
            exact ⟨KeepsOthers.setCell _ _ _, rfl, HNp.out⟩
        case done =>
        rintro D ys W7 hD rfl ⟨hI, hNb, hM, hW⟩ hd
        rw [numb_length] at hNb
        have HM7 := Lib.hid (Marks.cons hM2 hS.B.size hD hd hM)
        have HI7 := Lib.hid hI
        have HNb := Lib.hid hNb
        have HWb := Lib.hid hI.Wb
        clear hI hNb hM hW hd hS hN hM2 hB
        go_upto_region 37 with fail
        refine wp_only ?_
        refine wp_region_held (S := fun w' => Below W7.heap.size W7 w') (by kernel_rfl) ?_
        change wpAnyH _ _ _ _ _ _ _ _ (World.drew _)
        have hS : Below W7.heap.size W7 W7.drew := (Below.refl _ _).drew
        refine takeH hS (i := 0) (d := 137) (v := .int .i64 ((zs.length : Nat))) rfl rfl (by kernel_rfl) (by kernel_rfl) (by kernel_rfl) (fun _ _ _ h => h) (Or.inl ⟨by kernel_rfl, fun w' hw' => by exact exec_cell _ rfl ⟨nb, 0, none⟩ rfl _ Try.underlying3 (((HNb.out.below hw' HNb.out.lt).cell 0).trans (rfl))⟩) ?_
        refine takeH hS (i := 1) (d := 138) (v := .slice (ua) (zs.length) (uc)) rfl rfl (by kernel_rfl) (by kernel_rfl) (by kernel_rfl) (fun _ _ _ h => h) (Or.inl ⟨by kernel_rfl, fun w' hw' => by exact exec_cellv _ rfl ⟨wb, 0, none⟩ rfl (.slice (ua) (zs.length) (uc)) Try.underlying28 rfl (((HWb.out.below hw' HWb.out.lt).cell 0).trans (rfl))⟩) ?_
        refine takeH hS (i := 2) (d := 139) (v := .int .i64 ((zs.length : Nat))) rfl rfl (by kernel_rfl) (by kernel_rfl) (by kernel_rfl) (fun _ _ _ h => h) (Or.inl ⟨by kernel_rfl, fun w' hw' => by exact exec_len _ rfl Try.underlying28 _ _ _ rfl⟩) ?_
        refine takeH hS (i := 3) (d := 140) (v := .bool false) rfl rfl (by kernel_rfl) (by kernel_rfl) (by kernel_rfl) (fun _ _ _ h => h) (Or.inl ⟨by kernel_rfl, fun w' hw' => by exact exec_neq _ _ rfl ((zs.length : Nat)) ((zs.length : Nat)) rfl rfl false (by simp) rfl⟩) ?_
        try go_frame
        refine takeH hS (i := 4) (d := 141) (v := .bool false) rfl rfl (by kernel_rfl) (by kernel_rfl) (by kernel_rfl) (fun _ _ _ h => h) (Or.inl ⟨by kernel_rfl, fun w' hw' => by kernel_rfl⟩) ?_
        refine takeH hS (i := 5) (d := 142) (v := .pointer (some ⟨A, 0, none⟩)) rfl rfl (by kernel_rfl) (by kernel_rfl) (by kernel_rfl) (fun _ _ _ h => h) (Or.inl ⟨by kernel_rfl, fun w' hw' => by kernel_rfl⟩) ?_
        refine takeH hS (i := 7) (d := 144) (v := .int .i64 ((zs.length : Nat))) rfl rfl (by kernel_rfl) (by kernel_rfl) (by kernel_rfl) (fun _ _ _ h => h) (Or.inl ⟨by kernel_rfl, fun w' hw' => by exact exec_cell _ rfl ⟨nb, 0, none⟩ rfl _ Try.underlying3 (((HNb.out.below hw' HNb.out.lt).cell 0).trans (rfl))⟩) ?_
        try go_frame
        refine nextH (i := 6) rfl (by kernel_rfl) (by kernel_rfl) (fun K' hK => ?_)
        go_wp2_with fail
        refine (zsa (HI7.out.z.below hS)).mono ?_
        rintro en W7c1 ⟨rfl, hb0⟩
        have hb := below_eq hb0
        clear hb0
        have hS1 : Below W7.heap.size W7 W7c1 := bel_next hS hb
        refine hK.out _ _ ⟨hS1, ?_⟩
        clear hK K' hb hS
        refine takeH hS1 (i := 8) (d := 145) (v := .bool false) rfl rfl (by kernel_rfl) (by kernel_rfl) (by kernel_rfl) (fun _ _ _ h => h) (Or.inl ⟨by kernel_rfl, fun w' hw' => by exact exec_gtr _ _ rfl (z.safe) ((zs.length : Nat)) rfl rfl false (decide_eq_false (by omega)) rfl⟩) ?_
        refine takeH hS1 (i := 9) (d := 146) (v := .bool false) rfl rfl (by kernel_rfl) (by kernel_rfl) (by kernel_rfl) (fun _ _ _ h => h) (Or.inl ⟨by kernel_rfl, fun w' hw' => by kernel_rfl⟩) ?_
        refine wpAnyH_done (by kernel_rfl) ?_ _
        try go_frame
        have HI8 := Lib.hid (HI7.out.below hS1)
        have HM8 := Lib.hid (HM7.out.mono (keepsOthers_below hS1))
        clear hS1 HI7 HM7
        go_wp2_with fail
        exact ⟨RelP.mk (k + 1) rfl ⟨rfl, rfl, rfl, rfl, rfl, rfl, rfl, rfl, rfl, rfl, rfl, rfl, rfl, rfl, rfl, rfl, rfl, rfl, rfl, rfl, rfl, rfl, rfl, rfl, rfl, rfl, rfl, rfl, rfl, (show Value.int .i64 ((k : Int) + 1) = .int .i64 ((k + 1 : Nat) : Int) by go_num)⟩ (by omega) (PxR.mk HI8.out Hxs.out Hok.out HM8.out), by simp [intOf]; omega⟩
    · obtain rfl : k = len := by omega
      have HR := Lib.hid HIr.out.R
      have cR := blk_one HR.out
      have fR := HR.out.frozen 0
      go_wp2_with fail
      exact leave_marks (HMr.out.mono (KeepsOthers.setCell _ _ _)) (fun w' hw' => ⟨_, results_cell1 Try.results4 _ _ ⟨w.heap.size, 0, none⟩ (.bool true) rfl (agg_bool _) (blk_one (hw'.same _ _ _ (blk_set1 HR.out (.bool true)))), rfl, (HIr.out.B.setCell (p := ⟨w.heap.size, 0, none⟩) (Nat.le_refl _) _).trans hw'.bel⟩)

theorem walkZonePrefix (size : Int) (a : Option Addr) (len cap : Nat) (f : Nat → OpR) (w : World) (h0 : (Lit.int .i64 size).wf = true) (h1 : RowOp w a len cap f) : Calls Try.prog 4 #[.int .i64 size, .slice a len cap] w fun e w' => e = .returned (.bool true) ∧ Below w.heap.size w w' := by
  by_cases h : size < 1 ∨ 64 < size
  · exact walkZonePrefix_n size a len cap w h
  · by_cases hl : 80 < len
    · exact walkZonePrefix_l size a len cap w (by omega) (by omega) hl
    · exact walkZonePrefix_t size a len cap f w (by omega) (by omega) h1 (by omega)

end Go.Proofs.Ytflcfhjpmajggaa
