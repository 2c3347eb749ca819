import Derived.Test.YtlngdndamgopeaaMg20
import Derived.RangeFuncFrom
import Derived.Sort.CutIn
import Derived.Test.YtlngdndamgopeaaMg23
import Derived.Test.YtlngdndamgopeaaMg07
/-
  Layer 7 (zdev): is a device the document's.
-/
namespace Go.Proofs.Ytlngdndamgopeaa
open Go.RowKit Go.Shelf
attribute [local go_sem] Oper.semAt_some
set_option linter.unusedVariables false
set_option linter.unnecessarySimpa false
set_option linter.unusedSimpArgs false


theorem below_eqD {w w' : World} (h : w = w') : Below w.heap.size w w' := h ▸ Below.refl _ _
theorem kept_grown {W W' : World} {row : Option Nat} (hg : W.grownBy W' row) : Kept (fun i => row = some i) W W' := ⟨hg.os, hg.tape, hg.output, hg.size, fun k hk hn => hg.block k hk (fun e => hn e.symm)⟩
theorem own_cells {w : World} {base : Nat} {e : TypeId} {s n : Nat} {v : Value} {xs : List Value} (h : w.ownsRow base e s v n xs) {g : Nat} (hg : v.ownBlock = some g) : ∃ o : Obj, w.heap[g]? = some o ∧ o.isCells = true := by
  rcases h.2 with ⟨rfl, _⟩ | ⟨g', cap, cur, rfl, _, hh, _⟩
  · simp [Value.ownBlock] at hg
  · obtain rfl : g' = g := by simpa [Value.ownBlock] using hg
    exact ⟨_, hh, rfl⟩
section
variable {lo D : Nat} {w w' W W' : World} {vz v7 : Value} {d : DvR} {l : List ZcR} {zs : List ZsR}
theorem DvAt.cells (h : DvAt lo w D vz d l) {i : Nat} (hi : DvF D vz l i) : ∃ o : Obj, w.heap[i]? = some o ∧ o.isCells = true := by
  rcases hi with rfl | hi | ⟨c, hc, rfl | hi⟩
  · exact ⟨_, h.blk, rfl⟩
  · exact own_cells h.own hi
  · obtain ⟨j, hj⟩ := List.getElem?_of_mem hc
    exact ⟨_, (h.each j c hj).blk, rfl⟩
  · obtain ⟨j, hj⟩ := List.getElem?_of_mem hc
    exact own_cells (h.each j c hj).own hi
theorem ownF_dv {β : Type} {B : Nat} : OwnFrom (β := β) B (fun _ W => DvAt lo W D vz d l) := fun s X Y row h hg hr => h.kept (kept_grown hg) (fun i hi e => by
  obtain ⟨_, o, ho, hc⟩ := hr i e
  obtain ⟨o', ho', hc'⟩ := h.cells hi
  rw [ho'] at ho
  cases ho
  rw [hc'] at hc
  cases hc)
theorem ownF_rowK {β : Type} {B : Nat} {e : TypeId} {s n : Nat} {v : Value} {xs : List Value} : OwnFrom (β := β) B (fun _ W => W.ownsRow lo e s v n xs) := fun _ X Y row h hg hr => own_kept h (kept_grown hg) (fun g hgo e => by
  obtain ⟨_, o, h1, hc⟩ := hr g e
  obtain ⟨o', h2, hc'⟩ := own_cells h hgo
  rw [h2] at h1
  cases h1
  rw [hc'] at hc
  cases hc)
theorem ownK_keptB {e U : TypeId} {s n g : Nat} {v : Value} {xs : List Value} {cs : Array Value} (h : W.ownsRow lo e s v n xs) (hb : Blk W g U cs) (h1 : e ≠ U) (hk : Kept (· = g) W W') : W'.ownsRow lo e s v n xs := own_kept h hk (fun k hk' e => own_unlike h hb h1 (hk'.trans (congrArg some e)).symm)
theorem ownF_doc {β : Type} {B : Nat} : OwnFrom (β := β) B (fun _ W => Doc lo W v7 zs) := fun s X Y row h hg hr => by
  obtain ⟨l7, r, m⟩ := h
  have key : ∀ {e : TypeId} {s n : Nat} {v : Value} {xs : List Value}, X.ownsRow lo e s v n xs → ∀ g, v.ownBlock = some g → ¬ row = some g := fun ho g hgo e => by
    obtain ⟨_, o, h1, hc⟩ := hr g e
    obtain ⟨o', h2, hc'⟩ := own_cells ho hgo
    rw [h2] at h1
    cases h1
    rw [hc'] at hc
    cases hc
  exact ⟨l7, ⟨own_kept r.own (kept_grown hg) (key r.own), fun p hp => own_kept (r.each p hp) (kept_grown hg) (key (r.each p hp))⟩, m⟩
/-- What lies in memory while a device is held against the document's: that one at block n, the result at n + 1. -/
structure SmD (lo D : Nat) (vz v7 : Value) (d : DvR) (l : List ZcR) (w W : World) : Prop where
  X : Blk W w.heap.size 31 (d7A (dd7 d) v7)
  T : Blk W (w.heap.size + 1) 4 #[.bool false]
  dv : DvAt lo W D vz d l
  doc : Doc lo W v7 (l.map ZcR.z)
  B : Below w.heap.size w W
theorem SmD.below (h : SmD lo D vz v7 d l w W) (hb : Below W.heap.size W W') : SmD lo D vz v7 d l w W' := ⟨h.X.below hb h.X.lt, h.T.below hb h.T.lt, h.dv.below hb, h.doc.below hb, bthen' h.B hb⟩
theorem SmD.keptB {g : Nat} {U : TypeId} {cs : Array Value} (h : SmD lo D vz v7 d l w W) (hg : Blk W g U cs) (hl : w.heap.size + 1 < g) (h1 : U ≠ 61) (h2 : U ≠ 62) (h3 : U ≠ 88) (h4 : U ≠ 34) (h5 : 67 ≠ U) (h6 : 33 ≠ U) (hk : Kept (· = g) W W') : SmD lo D vz v7 d l w W' := by
  obtain ⟨l7, r, m⟩ := h.doc
  exact ⟨h.X.kept hk (by omega), h.T.kept hk (by omega), h.dv.kept hk (fun i hi e => h.dv.notblk hg h1 h2 h3 h4 (e ▸ hi)), ⟨l7, r.keptB hg h5 h6 hk, m⟩, bkept h.B (Nat.le_refl _) hk (fun i hi e => by omega)⟩
theorem SmD.ownF {β : Type} {B : Nat} (hB : w.heap.size ≤ B) : OwnFrom (β := β) B (fun _ W => SmD lo D vz v7 d l w W) := fun s X Y row h hg hr =>
  ⟨Own.from (blk_own (β := β) _ _ (fun _ => _)) B s X Y row h.X hg hr, Own.from (blk_own (β := β) _ _ (fun _ => _)) B s X Y row h.T hg hr, ownF_dv s X Y row h.dv hg hr, ownF_doc s X Y row h.doc hg hr, ownFrom_below (β := β) (Nat.le_refl _) hB s X Y row h.B hg hr⟩
end
theorem fq_iff {x : Nat × List Nat} {ss : List (List Nat)} (h64 : ∀ t ∈ ss, t.length = 64) {pre : List (Nat × List Nat)} (hp : pre ++ [x] <+: numq ss ss.length) : x.1 = pre.length ∧ nrm x.2 = ss.getD pre.length [] := by
  obtain ⟨h, hl⟩ := numq_get hp
  rw [h]
  exact ⟨rfl, nrm_of (getD_64 h64 _ hl)⟩

def frD (g : Nat → Value) : Array Value := ((List.range 112).map g).toArray
theorem frD_of {t : Array Value} (h : t.size = 112) : t = frD (fun i => t.getD i undef) := by
  apply Array.ext'
  apply List.ext_getElem
  · simp [frD, h]
  · intro i h1 h2
    simp only [frD, List.getElem_map, List.getElem_range]
    have h1' : i < t.size := by simpa using h1
    simp [Array.getD, h1']
theorem frD_lit (g : Nat → Value) : frD g = #[g 0, g 1, g 2, g 3, g 4, g 5, g 6, g 7, g 8, g 9, g 10, g 11, g 12, g 13, g 14, g 15, g 16, g 17, g 18, g 19, g 20, g 21, g 22, g 23, g 24, g 25, g 26, g 27, g 28, g 29, g 30, g 31, g 32, g 33, g 34, g 35, g 36, g 37, g 38, g 39, g 40, g 41, g 42, g 43, g 44, g 45, g 46, g 47, g 48, g 49, g 50, g 51, g 52, g 53, g 54, g 55, g 56, g 57, g 58, g 59, g 60, g 61, g 62, g 63, g 64, g 65, g 66, g 67, g 68, g 69, g 70, g 71, g 72, g 73, g 74, g 75, g 76, g 77, g 78, g 79, g 80, g 81, g 82, g 83, g 84, g 85, g 86, g 87, g 88, g 89, g 90, g 91, g 92, g 93, g 94, g 95, g 96, g 97, g 98, g 99, g 100, g 101, g 102, g 103, g 104, g 105, g 106, g 107, g 108, g 109, g 110, g 111] := by kernel_rfl
structure FxD (D : Nat) (a7 : Option Addr) (c7 : Nat) (d : DvR) (l : List ZcR) (n k : Nat) (g : Nat → Value) : Prop where
  s0 : g 0 = .pointer (some ⟨D, 0, none⟩)
  s1 : g 1 = .agg (d7A (dd7 d) (.slice a7 l.length c7))
  s2 : g 2 = undef
  s3 : g 3 = .pointer (some ⟨n, 0, none⟩)
  s4 : g 4 = .pointer (some ⟨n + 1, 0, none⟩)
  s10 : g 10 = .pointer (some ⟨D, 0, none⟩)
  s11 : g 11 = .int .i64 (l.length : Nat)
  s12 : g 12 = .pointer (some ⟨n, 0, none⟩)
  s13 : g 13 = .slice a7 l.length c7
  s14 : g 14 = .int .i64 (l.length : Nat)
  s15 : g 15 = .bool false
  s16 : g 16 = .bool false
  s17 : g 17 = .pointer (some ⟨D, 0, none⟩)
  s18 : g 18 = .int .i64 d.size
  s19 : g 19 = .pointer (some ⟨n, 1, none⟩)
  s20 : g 20 = .int .i64 d.size
  s21 : g 21 = .bool false
  s22 : g 22 = .bool false
  s23 : g 23 = .bool false
  s24 : g 24 = .pointer (some ⟨D, 0, none⟩)
  s25 : g 25 = .int .i64 d.count
  s26 : g 26 = .pointer (some ⟨n, 3, none⟩)
  s27 : g 27 = .int .i64 d.count
  s28 : g 28 = .bool false
  s29 : g 29 = .bool false
  s30 : g 30 = .bool false
  s31 : g 31 = .pointer (some ⟨D, 0, none⟩)
  s32 : g 32 = .bool d.down
  s33 : g 33 = .pointer (some ⟨n, 4, none⟩)
  s34 : g 34 = .bool d.down
  s35 : g 35 = .bool false
  s36 : g 36 = .bool false
  s37 : g 37 = .bool false
  s38 : g 38 = .pointer (some ⟨D, 0, none⟩)
  s39 : g 39 = .int .i64 4
  s40 : g 40 = .bool false
  s41 : g 41 = .bool false
  s42 : g 42 = .bool false
  s43 : g 43 = .pointer (some ⟨D, 0, none⟩)
  s44 : g 44 = .pointer (some ⟨n, 0, none⟩)
  s45 : g 45 = .slice a7 l.length c7
  s46 : g 46 = .int .i64 (l.length : Nat)
  s47 : g 47 = .int .i64 0
  s48 : g 48 = .bool false
  s49 : g 49 = .bool false
  s50 : g 50 = .pointer (some ⟨n, 0, none⟩)
  s51 : g 51 = .slice a7 l.length c7
  s52 : g 52 = .int .i64 (l.length : Nat)
  s53 : g 53 = .int .i64 (k : Nat)
  s105 : g 105 = undef
  s106 : g 106 = undef
  s107 : g 107 = undef
  s108 : g 108 = undef
  s109 : g 109 = undef
  s110 : g 110 = undef
  s111 : g 111 = undef

def RelD (lo D : Nat) (vz : Value) (a7 : Option Addr) (c7 : Nat) (d : DvR) (l : List ZcR) (w : World) (a' : Act) (V : World) : Prop :=
  ∃ (k : Nat) (ds : List Deferred) (g : Nat → Value), a' = { tmps := frD g, defers := ds } ∧ FxD D a7 c7 d l w.heap.size k g ∧ k ≤ l.length ∧ SmD lo D vz (.slice a7 l.length c7) d l w V ∧ Marks w.heap.size ds V
theorem RelD.mk {lo D : Nat} {vz : Value} {a7 : Option Addr} {c7 : Nat} {d : DvR} {l : List ZcR} {w V : World} {t : Array Value} {ds : List Deferred} (k : Nat) (h : t.size = 112) (hf : FxD D a7 c7 d l w.heap.size k (fun i => t.getD i undef)) (hk : k ≤ l.length) (hS : SmD lo D vz (.slice a7 l.length c7) d l w V) (hM : Marks w.heap.size ds V) : RelD lo D vz a7 c7 d l w { tmps := t, defers := ds } V :=
  ⟨k, ds, fun i => t.getD i undef, by rw [← frD_of h], hf, hk, hS, hM⟩

set_option maxRecDepth 100000 in
set_option maxHeartbeats 8000000 in
theorem same7 {lo D : Nat} {w : World} {vz v7 : Value} {d : DvR} {l : List ZcR} (h : DvAt lo w D vz d l) (hD : Doc lo w v7 (l.map ZcR.z)) (hl : l.length ≤ 1000) : Calls Try.prog 13 #[.pointer (some ⟨D, 0, none⟩), .agg (d7A (dd7 d) v7)] w fun e w' => e = .returned (.bool true) ∧ Below w.heap.size w w' := by
  obtain ⟨a7, c7, hcc1, hcc2, rfl⟩ : ∃ a c, l.length ≤ c ∧ c ≤ 9223372036854775807 ∧ v7 = .slice a l.length c := by
    obtain ⟨l7, r, m⟩ := hD
    obtain ⟨a, c, e⟩ := own_slice r.own
    obtain ⟨_, q1, q2⟩ := ownK_cap (e ▸ r.own)
    have hll : l7.length = l.length := by have h := doc7_len m; rwa [List.length_map] at h
    unfold maxLen at q2
    rw [hll] at e q1
    exact ⟨a, c, q1, q2, e⟩
  have b1 := below_alloc w (Obj.cells (d7A (dd7 d) (.slice a7 l.length c7)) 31)
  have b2 := bthen' b1 (below_alloc _ (Obj.cells #[.bool false] 4))
  have x1 := Blk.new (w.alloc (Obj.cells (d7A (dd7 d) (.slice a7 l.length c7)) 31)) 4 #[.bool false]
  rw [World.size_alloc] at x1
  have HS1 : Hid (SmD lo D vz (.slice a7 l.length c7) d l w ((w.alloc (Obj.cells (d7A (dd7 d) (.slice a7 l.length c7)) 31)).alloc (Obj.cells #[.bool false] 4))) := Lib.hid ⟨(Blk.new w 31 _).alloc _, x1, h.below b2, hD.below b2, b2⟩
  have HXb := Lib.hid HS1.out.X
  have Hst1 : Hid (stD (l.map ZcR.z) (-1) = 4) := Lib.hid rfl
  have Hln1 : Hid (lnD (l.map ZcR.z) (l.length : Nat) = 0) := Lib.hid (by unfold lnD; rw [if_neg (by unfold dhB; simp)])
  have Hlo := Lib.hid (show lo ≤ w.heap.size by have := h.blk.lt; have := h.le; omega)
  clear b1 b2 x1 h hD
  refine calls_marks Try.func13 rfl ?_
  simp only [Try.ntmps13, List.size_toArray, List.length_cons, List.length_nil, Nat.reduceAdd, Nat.reduceSub, Array.replicate_succ, Array.replicate_zero, List.push_toArray, List.append_toArray, List.nil_append, List.cons_append]
  go_upto_region 1 with fail
  generalize (w.alloc (Obj.cells (d7A (dd7 d) (.slice a7 l.length c7)) 31)).alloc (Obj.cells #[.bool false] 4) = w1 at *
  refine wp_then_only ?_
  refine wp_region_held (S := fun w' => Below w1.heap.size w1 w') (by kernel_rfl) ?_
  change wpAnyH _ _ _ _ _ _ _ _ (World.drew _)
  have hS : Below w1.heap.size w1 w1.drew := (Below.refl _ _).drew
  refine takeH hS (i := 0) (d := 10) (v := .pointer (some ⟨D, 0, none⟩)) rfl rfl (by kernel_rfl) (by kernel_rfl) (by kernel_rfl) (fun _ _ _ h => h) (Or.inl ⟨by kernel_rfl, fun w' hw' => by kernel_rfl⟩) ?_
  refine takeH hS (i := 2) (d := 12) (v := .pointer (some ⟨w.heap.size, 0, none⟩)) rfl rfl (by kernel_rfl) (by kernel_rfl) (by kernel_rfl) (fun _ _ _ h => h) (Or.inl ⟨by kernel_rfl, fun w' hw' => by kernel_rfl⟩) ?_
  refine takeH hS (i := 3) (d := 13) (v := .slice (a7) (l.length) (c7)) rfl rfl (by kernel_rfl) (by kernel_rfl) (by kernel_rfl) (fun _ _ _ h => h) (Or.inl ⟨by kernel_rfl, fun w' hw' => by exact exec_cellv _ rfl ⟨w.heap.size, 0, none⟩ rfl (.slice (a7) (l.length) (c7)) Try.underlying29 rfl (((HXb.out.below hw' HXb.out.lt).cell 0).trans (rfl))⟩) ?_
  refine takeH hS (i := 4) (d := 14) (v := .int .i64 ((l.length : Nat))) rfl rfl (by kernel_rfl) (by kernel_rfl) (by kernel_rfl) (fun _ _ _ h => h) (Or.inl ⟨by kernel_rfl, fun w' hw' => by exact exec_len _ rfl Try.underlying29 _ _ _ rfl⟩) ?_
  try go_frame
  refine nextH (i := 1) rfl (by kernel_rfl) (by kernel_rfl) (fun K' hK => ?_)
  go_wp2_with fail
  refine (dzones (HS1.out.dv.below hS)).mono ?_
  rintro en w1c1 ⟨rfl, hb0⟩
  have hb := below_eqD hb0
  clear hb0
  have hS1 : Below w1.heap.size w1 w1c1 := bel_next hS hb
  refine hK.out _ _ ⟨hS1, ?_⟩
  clear hK K' hb hS
  refine takeH hS1 (i := 5) (d := 15) (v := .bool false) rfl rfl (by kernel_rfl) (by kernel_rfl) (by kernel_rfl) (fun _ _ _ h => h) (Or.inl ⟨by kernel_rfl, fun w' hw' => by exact exec_neq _ _ rfl ((l.length : Nat)) ((l.length : Nat)) rfl rfl false (by simp) rfl⟩) ?_
  refine takeH hS1 (i := 6) (d := 16) (v := .bool false) rfl rfl (by kernel_rfl) (by kernel_rfl) (by kernel_rfl) (fun _ _ _ h => h) (Or.inl ⟨by kernel_rfl, fun w' hw' => by kernel_rfl⟩) ?_
  refine takeH hS1 (i := 7) (d := 17) (v := .pointer (some ⟨D, 0, none⟩)) rfl rfl (by kernel_rfl) (by kernel_rfl) (by kernel_rfl) (fun _ _ _ h => h) (Or.inl ⟨by kernel_rfl, fun w' hw' => by kernel_rfl⟩) ?_
  refine takeH hS1 (i := 9) (d := 19) (v := .pointer (some ⟨w.heap.size, 1, none⟩)) rfl rfl (by kernel_rfl) (by kernel_rfl) (by kernel_rfl) (fun _ _ _ h => h) (Or.inl ⟨by kernel_rfl, fun w' hw' => by kernel_rfl⟩) ?_
  try go_frame
  refine takeH hS1 (i := 10) (d := 20) (v := .int .i64 (d.size)) rfl rfl (by kernel_rfl) (by kernel_rfl) (by kernel_rfl) (fun _ _ _ h => h) (Or.inl ⟨by kernel_rfl, fun w' hw' => by exact exec_cell _ rfl ⟨w.heap.size, 1, none⟩ rfl _ Try.underlying3 (((HXb.out.below hw' HXb.out.lt).cell 1).trans (rfl))⟩) ?_
  try go_frame
  refine nextH (i := 8) rfl (by kernel_rfl) (by kernel_rfl) (fun K' hK => ?_)
  go_wp2_with fail
  refine (dsize (HS1.out.dv.below hS1)).mono ?_
  rintro en w1c2 ⟨rfl, hb0⟩
  have hb := below_eqD hb0
  clear hb0
  have hS2 : Below w1.heap.size w1 w1c2 := bel_next hS1 hb
  refine hK.out _ _ ⟨hS2, ?_⟩
  clear hK K' hb hS1
  refine takeH hS2 (i := 11) (d := 21) (v := .bool false) rfl rfl (by kernel_rfl) (by kernel_rfl) (by kernel_rfl) (fun _ _ _ h => h) (Or.inl ⟨by kernel_rfl, fun w' hw' => by exact exec_neq _ _ rfl (d.size) (d.size) rfl rfl false (by simp) rfl⟩) ?_
  refine takeH hS2 (i := 12) (d := 22) (v := .bool false) rfl rfl (by kernel_rfl) (by kernel_rfl) (by kernel_rfl) (fun _ _ _ h => h) (Or.inl ⟨by kernel_rfl, fun w' hw' => by kernel_rfl⟩) ?_
  refine takeH hS2 (i := 13) (d := 23) (v := .bool false) rfl rfl (by kernel_rfl) (by kernel_rfl) (by kernel_rfl) (fun _ _ _ h => h) (Or.inl ⟨by kernel_rfl, fun w' hw' => by kernel_rfl⟩) ?_
  refine takeH hS2 (i := 14) (d := 24) (v := .pointer (some ⟨D, 0, none⟩)) rfl rfl (by kernel_rfl) (by kernel_rfl) (by kernel_rfl) (fun _ _ _ h => h) (Or.inl ⟨by kernel_rfl, fun w' hw' => by kernel_rfl⟩) ?_
  try go_frame
  refine takeH hS2 (i := 16) (d := 26) (v := .pointer (some ⟨w.heap.size, 3, none⟩)) rfl rfl (by kernel_rfl) (by kernel_rfl) (by kernel_rfl) (fun _ _ _ h => h) (Or.inl ⟨by kernel_rfl, fun w' hw' => by kernel_rfl⟩) ?_
  refine takeH hS2 (i := 17) (d := 27) (v := .int .i64 (d.count)) rfl rfl (by kernel_rfl) (by kernel_rfl) (by kernel_rfl) (fun _ _ _ h => h) (Or.inl ⟨by kernel_rfl, fun w' hw' => by exact exec_cell _ rfl ⟨w.heap.size, 3, none⟩ rfl _ Try.underlying3 (((HXb.out.below hw' HXb.out.lt).cell 3).trans (rfl))⟩) ?_
  try go_frame
  refine nextH (i := 15) rfl (by kernel_rfl) (by kernel_rfl) (fun K' hK => ?_)
  go_wp2_with fail
  refine (dcount (HS1.out.dv.below hS2)).mono ?_
  rintro en w1c3 ⟨rfl, hb0⟩
  have hb := below_eqD hb0
  clear hb0
  have hS3 : Below w1.heap.size w1 w1c3 := bel_next hS2 hb
  refine hK.out _ _ ⟨hS3, ?_⟩
  clear hK K' hb hS2
  refine takeH hS3 (i := 18) (d := 28) (v := .bool false) rfl rfl (by kernel_rfl) (by kernel_rfl) (by kernel_rfl) (fun _ _ _ h => h) (Or.inl ⟨by kernel_rfl, fun w' hw' => by exact exec_neq _ _ rfl (d.count) (d.count) rfl rfl false (by simp) rfl⟩) ?_
  refine takeH hS3 (i := 19) (d := 29) (v := .bool false) rfl rfl (by kernel_rfl) (by kernel_rfl) (by kernel_rfl) (fun _ _ _ h => h) (Or.inl ⟨by kernel_rfl, fun w' hw' => by kernel_rfl⟩) ?_
  refine takeH hS3 (i := 20) (d := 30) (v := .bool false) rfl rfl (by kernel_rfl) (by kernel_rfl) (by kernel_rfl) (fun _ _ _ h => h) (Or.inl ⟨by kernel_rfl, fun w' hw' => by kernel_rfl⟩) ?_
  refine takeH hS3 (i := 21) (d := 31) (v := .pointer (some ⟨D, 0, none⟩)) rfl rfl (by kernel_rfl) (by kernel_rfl) (by kernel_rfl) (fun _ _ _ h => h) (Or.inl ⟨by kernel_rfl, fun w' hw' => by kernel_rfl⟩) ?_
  try go_frame
  refine takeH hS3 (i := 23) (d := 33) (v := .pointer (some ⟨w.heap.size, 4, none⟩)) rfl rfl (by kernel_rfl) (by kernel_rfl) (by kernel_rfl) (fun _ _ _ h => h) (Or.inl ⟨by kernel_rfl, fun w' hw' => by kernel_rfl⟩) ?_
  refine takeH hS3 (i := 24) (d := 34) (v := .bool d.down) rfl rfl (by kernel_rfl) (by kernel_rfl) (by kernel_rfl) (fun _ _ _ h => h) (Or.inl ⟨by kernel_rfl, fun w' hw' => by exact exec_cellv _ rfl ⟨w.heap.size, 4, none⟩ rfl (.bool d.down) Try.underlying4 rfl (((HXb.out.below hw' HXb.out.lt).cell 4).trans (rfl))⟩) ?_
  try go_frame
  refine nextH (i := 22) rfl (by kernel_rfl) (by kernel_rfl) (fun K' hK => ?_)
  go_wp2_with fail
  refine (ddown (HS1.out.dv.below hS3)).mono ?_
  rintro en w1c4 ⟨rfl, hb0⟩
  have hb := below_eqD hb0
  clear hb0
  have hS4 : Below w1.heap.size w1 w1c4 := bel_next hS3 hb
  refine hK.out _ _ ⟨hS4, ?_⟩
  clear hK K' hb hS3
  refine takeH hS4 (i := 25) (d := 35) (v := .bool false) rfl rfl (by kernel_rfl) (by kernel_rfl) (by kernel_rfl) (fun _ _ _ h => h) (Or.inl ⟨by kernel_rfl, fun w' hw' => by (cases hdd : d.down <;> kernel_rfl)⟩) ?_
  refine takeH hS4 (i := 26) (d := 36) (v := .bool false) rfl rfl (by kernel_rfl) (by kernel_rfl) (by kernel_rfl) (fun _ _ _ h => h) (Or.inl ⟨by kernel_rfl, fun w' hw' => by kernel_rfl⟩) ?_
  refine takeH hS4 (i := 27) (d := 37) (v := .bool false) rfl rfl (by kernel_rfl) (by kernel_rfl) (by kernel_rfl) (fun _ _ _ h => h) (Or.inl ⟨by kernel_rfl, fun w' hw' => by kernel_rfl⟩) ?_
  refine takeH hS4 (i := 28) (d := 38) (v := .pointer (some ⟨D, 0, none⟩)) rfl rfl (by kernel_rfl) (by kernel_rfl) (by kernel_rfl) (fun _ _ _ h => h) (Or.inl ⟨by kernel_rfl, fun w' hw' => by kernel_rfl⟩) ?_
  try go_frame
  refine nextH (i := 29) rfl (by kernel_rfl) (by kernel_rfl) (fun K' hK => ?_)
  go_wp2_with fail
  refine (cst7 (-1) (HS1.out.dv.below hS4)).mono ?_
  rw [Hst1.out]
  rintro en w1c5 ⟨rfl, hb⟩
  have hS5 : Below w1.heap.size w1 w1c5 := bel_next hS4 hb
  refine hK.out _ _ ⟨hS5, ?_⟩
  clear hK K' hb hS4
  refine takeH hS5 (i := 30) (d := 40) (v := .bool false) rfl rfl (by kernel_rfl) (by kernel_rfl) (by kernel_rfl) (fun _ _ _ h => h) (Or.inl ⟨by kernel_rfl, fun w' hw' => by exact exec_neq _ _ rfl ((4 : Int)) (4) rfl rfl false (by simp) rfl⟩) ?_
  refine takeH hS5 (i := 31) (d := 41) (v := .bool false) rfl rfl (by kernel_rfl) (by kernel_rfl) (by kernel_rfl) (fun _ _ _ h => h) (Or.inl ⟨by kernel_rfl, fun w' hw' => by kernel_rfl⟩) ?_
  refine takeH hS5 (i := 32) (d := 42) (v := .bool false) rfl rfl (by kernel_rfl) (by kernel_rfl) (by kernel_rfl) (fun _ _ _ h => h) (Or.inl ⟨by kernel_rfl, fun w' hw' => by kernel_rfl⟩) ?_
  refine takeH hS5 (i := 33) (d := 43) (v := .pointer (some ⟨D, 0, none⟩)) rfl rfl (by kernel_rfl) (by kernel_rfl) (by kernel_rfl) (fun _ _ _ h => h) (Or.inl ⟨by kernel_rfl, fun w' hw' => by kernel_rfl⟩) ?_
  try go_frame
  refine takeH hS5 (i := 34) (d := 44) (v := .pointer (some ⟨w.heap.size, 0, none⟩)) rfl rfl (by kernel_rfl) (by kernel_rfl) (by kernel_rfl) (fun _ _ _ h => h) (Or.inl ⟨by kernel_rfl, fun w' hw' => by kernel_rfl⟩) ?_
  refine takeH hS5 (i := 35) (d := 45) (v := .slice (a7) (l.length) (c7)) rfl rfl (by kernel_rfl) (by kernel_rfl) (by kernel_rfl) (fun _ _ _ h => h) (Or.inl ⟨by kernel_rfl, fun w' hw' => by exact exec_cellv _ rfl ⟨w.heap.size, 0, none⟩ rfl (.slice (a7) (l.length) (c7)) Try.underlying29 rfl (((HXb.out.below hw' HXb.out.lt).cell 0).trans (rfl))⟩) ?_
  refine takeH hS5 (i := 36) (d := 46) (v := .int .i64 ((l.length : Nat))) rfl rfl (by kernel_rfl) (by kernel_rfl) (by kernel_rfl) (fun _ _ _ h => h) (Or.inl ⟨by kernel_rfl, fun w' hw' => by exact exec_len _ rfl Try.underlying29 _ _ _ rfl⟩) ?_
  try go_frame
  refine nextH (i := 37) rfl (by kernel_rfl) (by kernel_rfl) (fun K' hK => ?_)
  go_wp2_with fail
  refine (cln7 (l.length : Nat) (HS1.out.dv.below hS5)).mono ?_
  rw [Hln1.out]
  rintro en w1c6 ⟨rfl, hb0⟩
  have hb := below_eqD hb0
  clear hb0
  have hS6 : Below w1.heap.size w1 w1c6 := bel_next hS5 hb
  refine hK.out _ _ ⟨hS6, ?_⟩
  clear hK K' hb hS5
  refine takeH hS6 (i := 38) (d := 48) (v := .bool false) rfl rfl (by kernel_rfl) (by kernel_rfl) (by kernel_rfl) (fun _ _ _ h => h) (Or.inl ⟨by kernel_rfl, fun w' hw' => by exact exec_neq _ _ rfl ((0 : Int)) (0) rfl rfl false (by simp) rfl⟩) ?_
  refine takeH hS6 (i := 39) (d := 49) (v := .bool false) rfl rfl (by kernel_rfl) (by kernel_rfl) (by kernel_rfl) (fun _ _ _ h => h) (Or.inl ⟨by kernel_rfl, fun w' hw' => by kernel_rfl⟩) ?_
  refine wpAnyH_done (by kernel_rfl) ?_ _
  try go_frame
  have HS2 := Lib.hid (HS1.out.below hS6)
  clear hS6 HS1 HXb
  obtain ⟨w2, hren⟩ : ∃ t, t = w1c6 := ⟨_, rfl⟩
  subst hren
  have c0 : w2.cell? ⟨w.heap.size, 0, none⟩ = some (.slice a7 l.length c7) := (HS2.out.X.cell 0).trans rfl
  go_wp2_with fail
  clear c0
  refine wp_loop (RelD lo D vz a7 c7 d l w) (fun a' _ => (l.length - (intOf (a'.tmps.getD 53 undef)).toNat)) ?start ?round
  case start =>
    exact RelD.mk 0 rfl ⟨rfl, rfl, rfl, rfl, rfl, rfl, rfl, rfl, rfl, rfl, rfl, rfl, rfl, rfl, rfl, rfl, rfl, rfl, rfl, rfl, rfl, rfl, rfl, rfl, rfl, rfl, rfl, rfl, rfl, rfl, rfl, rfl, rfl, rfl, rfl, rfl, rfl, rfl, rfl, rfl, rfl, rfl, rfl, rfl, rfl, rfl, rfl, rfl, rfl, rfl, rfl, rfl, rfl, rfl, rfl, rfl⟩ (Nat.zero_le _) HS2.out (Marks.nil _ _)
  case round =>
    rintro a' V ⟨k, ds, g, rfl, hfx, hk, hSr, hMr⟩
    rw [frD_lit g]
    simp only [hfx.s0, hfx.s1, hfx.s2, hfx.s3, hfx.s4, hfx.s10, hfx.s11, hfx.s12, hfx.s13, hfx.s14, hfx.s15, hfx.s16, hfx.s17, hfx.s18, hfx.s19, hfx.s20, hfx.s21, hfx.s22, hfx.s23, hfx.s24, hfx.s25, hfx.s26, hfx.s27, hfx.s28, hfx.s29, hfx.s30, hfx.s31, hfx.s32, hfx.s33, hfx.s34, hfx.s35, hfx.s36, hfx.s37, hfx.s38, hfx.s39, hfx.s40, hfx.s41, hfx.s42, hfx.s43, hfx.s44, hfx.s45, hfx.s46, hfx.s47, hfx.s48, hfx.s49, hfx.s50, hfx.s51, hfx.s52, hfx.s53, hfx.s105, hfx.s106, hfx.s107, hfx.s108, hfx.s109, hfx.s110, hfx.s111]
    clear hfx
    have HSr := Lib.hid hSr
    have HMr := Lib.hid hMr
    clear hSr hMr HS2
    by_cases hlt : k < l.length
    · obtain ⟨c, hc⟩ : ∃ c, l[k]? = some c := ⟨_, List.getElem?_eq_getElem hlt⟩
      obtain ⟨l7, r7, m7⟩ := HSr.out.doc
      obtain ⟨u, hp⟩ := doc_at m7 (zof hc)
      have hll : l7.length = l.length := by have h := doc7_len m7; rwa [List.length_map] at h
      have hu : V.ownsRow lo 33 64 u c.z.ss.length (flat c.z.ss) := r7.each _ (List.mem_of_getElem? hp)
      obtain ⟨b, cu, rfl⟩ := own_slice hu
      obtain ⟨_, u1, u2⟩ := ownK_cap hu
      unfold maxLen at u2
      have hown : V.ownsRow lo 67 4 (.slice a7 l.length c7) l.length (zrow l7) := by have h := r7.own; rwa [hll] at h
      obtain ⟨g7, rfl, _, _⟩ := ownK_form hown (by omega)
      have HC := Lib.hid (row_range hown hll k _ hp)
      have HU := Lib.hid hu
      have Hc := Lib.hid hc
      have Hok := Lib.hid (HSr.out.dv.ok k c hc)
      have Hst : Hid (stD (l.map ZcR.z) (k : Int) = stS c.z) := Lib.hid (by unfold stD; rw [if_pos (by unfold dhB; simp; omega), zsat_of (zof hc)])
      have Hln : Hid (lnD (l.map ZcR.z) (k : Int) = (c.z.ss.length : Int)) := Lib.hid (by unfold lnD; rw [if_pos (by unfold dhB; simp; omega), zsat_of (zof hc)])
      have hz64 := zero_secF
      clear hc r7 m7 hp hll hu hown
      go_upto_region 6 with (first | (refine wpl_load_z (by rfl) _ _ rfl g7 (k * 4) rfl (rz c.z, .slice b c.z.ss.length cu) _ HC.out Try.underlying67 rfl Try.info7Z ?_; go_frame) | (refine wpl_store_new rfl _ _ rfl (z7A (rz c.z) (.slice b c.z.ss.length cu)) V 67 z7Z rfl rfl rfl Try.info7Z rfl (z7A_one _ _ _ _) ?_; go_frame))
      have hbv := below_alloc V (Obj.cells (z7A (rz c.z) (.slice b c.z.ss.length cu)) 67)
      have HYz := Lib.hid (Blk.new V 67 (z7A (rz c.z) (.slice b c.z.ss.length cu)))
      have HS5 := Lib.hid (HSr.out.below hbv)
      have HU5 := Lib.hid (ownK_below HU.out hbv)
      have HM5 := Lib.hid (HMr.out.mono (KeepsOthers.alloc V (Obj.cells (z7A (rz c.z) (.slice b c.z.ss.length cu)) 67)))
      have HYl := Lib.hid (show w.heap.size + 1 < V.heap.size from HSr.out.T.lt)
      clear hbv HSr HMr HU HC
      generalize V.alloc (Obj.cells (z7A (rz c.z) (.slice b c.z.ss.length cu)) 67) = w5 at *
      generalize V.heap.size = Y at *
      refine wp_then_only ?_
      refine wp_region_held (S := fun w' => Below w5.heap.size w5 w') (by kernel_rfl) ?_
      change wpAnyH _ _ _ _ _ _ _ _ (World.drew _)
      have hS : Below w5.heap.size w5 w5.drew := (Below.refl _ _).drew
      refine takeH hS (i := 0) (d := 58) (v := .pointer (some ⟨D, 0, none⟩)) rfl rfl (by kernel_rfl) (by kernel_rfl) (by kernel_rfl) (fun _ _ _ h => h) (Or.inl ⟨by kernel_rfl, fun w' hw' => by kernel_rfl⟩) ?_
      refine takeH hS (i := 1) (d := 59) (v := .int .i64 ((k : Nat))) rfl rfl (by kernel_rfl) (by kernel_rfl) (by kernel_rfl) (fun _ _ _ h => h) (Or.inl ⟨by kernel_rfl, fun w' hw' => by kernel_rfl⟩) ?_
      refine takeH hS (i := 3) (d := 61) (v := .pointer (some ⟨Y, 2, none⟩)) rfl rfl (by kernel_rfl) (by kernel_rfl) (by kernel_rfl) (fun _ _ _ h => h) (Or.inl ⟨by kernel_rfl, fun w' hw' => by kernel_rfl⟩) ?_
      refine takeH hS (i := 4) (d := 62) (v := .int .i64 (stS c.z)) rfl rfl (by kernel_rfl) (by kernel_rfl) (by kernel_rfl) (fun _ _ _ h => h) (Or.inl ⟨by kernel_rfl, fun w' hw' => by exact exec_cell _ rfl ⟨Y, 2, none⟩ rfl _ Try.underlying3 (((HYz.out.below hw' HYz.out.lt).cell 2).trans (rfl))⟩) ?_
      try go_frame
      refine nextH (i := 2) rfl (by kernel_rfl) (by kernel_rfl) (fun K' hK => ?_)
      go_wp2_with fail
      refine (cst7 (k : Int) (HS5.out.dv.below hS)).mono ?_
      rw [Hst.out]
      rintro en w5c1 ⟨rfl, hb⟩
      have hS1 : Below w5.heap.size w5 w5c1 := bel_next hS hb
      refine hK.out _ _ ⟨hS1, ?_⟩
      clear hK K' hb hS
      refine takeH hS1 (i := 5) (d := 63) (v := .bool false) rfl rfl (by kernel_rfl) (by kernel_rfl) (by kernel_rfl) (fun _ _ _ h => h) (Or.inl ⟨by kernel_rfl, fun w' hw' => by exact exec_neq _ _ rfl (stS c.z) (stS c.z) rfl rfl false (by simp) rfl⟩) ?_
      refine takeH hS1 (i := 6) (d := 64) (v := .bool false) rfl rfl (by kernel_rfl) (by kernel_rfl) (by kernel_rfl) (fun _ _ _ h => h) (Or.inl ⟨by kernel_rfl, fun w' hw' => by kernel_rfl⟩) ?_
      refine takeH hS1 (i := 7) (d := 65) (v := .pointer (some ⟨D, 0, none⟩)) rfl rfl (by kernel_rfl) (by kernel_rfl) (by kernel_rfl) (fun _ _ _ h => h) (Or.inl ⟨by kernel_rfl, fun w' hw' => by kernel_rfl⟩) ?_
      refine takeH hS1 (i := 8) (d := 66) (v := .int .i64 ((k : Nat))) rfl rfl (by kernel_rfl) (by kernel_rfl) (by kernel_rfl) (fun _ _ _ h => h) (Or.inl ⟨by kernel_rfl, fun w' hw' => by kernel_rfl⟩) ?_
      try go_frame
      refine takeH hS1 (i := 10) (d := 68) (v := .pointer (some ⟨Y, 0, none⟩)) rfl rfl (by kernel_rfl) (by kernel_rfl) (by kernel_rfl) (fun _ _ _ h => h) (Or.inl ⟨by kernel_rfl, fun w' hw' => by kernel_rfl⟩) ?_
      refine takeH hS1 (i := 11) (d := 69) (v := .slice (b) (c.z.ss.length) (cu)) rfl rfl (by kernel_rfl) (by kernel_rfl) (by kernel_rfl) (fun _ _ _ h => h) (Or.inl ⟨by kernel_rfl, fun w' hw' => by exact exec_cellv _ rfl ⟨Y, 0, none⟩ rfl (.slice (b) (c.z.ss.length) (cu)) Try.underlying65 rfl (((HYz.out.below hw' HYz.out.lt).cell 0).trans (rfl))⟩) ?_
      refine takeH hS1 (i := 12) (d := 70) (v := .int .i64 ((c.z.ss.length : Nat))) rfl rfl (by kernel_rfl) (by kernel_rfl) (by kernel_rfl) (fun _ _ _ h => h) (Or.inl ⟨by kernel_rfl, fun w' hw' => by exact exec_len _ rfl Try.underlying65 _ _ _ rfl⟩) ?_
      try go_frame
      refine nextH (i := 9) rfl (by kernel_rfl) (by kernel_rfl) (fun K' hK => ?_)
      go_wp2_with fail
      refine (cln7 (k : Int) (HS5.out.dv.below hS1)).mono ?_
      rw [Hln.out]
      rintro en w5c2 ⟨rfl, hb0⟩
      have hb := below_eqD hb0
      clear hb0
      have hS2 : Below w5.heap.size w5 w5c2 := bel_next hS1 hb
      refine hK.out _ _ ⟨hS2, ?_⟩
      clear hK K' hb hS1
      refine takeH hS2 (i := 13) (d := 71) (v := .bool false) rfl rfl (by kernel_rfl) (by kernel_rfl) (by kernel_rfl) (fun _ _ _ h => h) (Or.inl ⟨by kernel_rfl, fun w' hw' => by exact exec_neq _ _ rfl ((c.z.ss.length : Nat)) ((c.z.ss.length : Nat)) rfl rfl false (by simp) rfl⟩) ?_
      refine takeH hS2 (i := 14) (d := 72) (v := .bool false) rfl rfl (by kernel_rfl) (by kernel_rfl) (by kernel_rfl) (fun _ _ _ h => h) (Or.inl ⟨by kernel_rfl, fun w' hw' => by kernel_rfl⟩) ?_
      refine wpAnyH_done (by kernel_rfl) ?_ _
      try go_frame
      have HS6 := Lib.hid (HS5.out.below hS2)
      have HU6 := Lib.hid (ownK_below HU5.out hS2)
      have HM6 := Lib.hid (HM5.out.mono (keepsOthers_below hS2))
      have HYz6 := Lib.hid (HYz.out.below hS2 HYz.out.lt)
      clear hS2 HS5 HU5 HM5 HYz
      obtain ⟨w6, hren⟩ : ∃ t, t = w5c2 := ⟨_, rfl⟩
      subst hren
      go_upto_region 9 with fail
      have hb7 := below_alloc w6 (Obj.cells #[.int .i64 0] 3)
      have HS7 := Lib.hid (HS6.out.below hb7)
      have HU7 := Lib.hid (ownK_below HU6.out hb7)
      have HM7 := Lib.hid (HM6.out.mono (KeepsOthers.alloc w6 (Obj.cells #[.int .i64 0] 3)))
      have HYz7 := Lib.hid (HYz6.out.below hb7 HYz6.out.lt)
      have HNb7 := Lib.hid (Blk.new w6 3 #[.int .i64 0])
      have HYn := Lib.hid HYz6.out.lt
      clear hb7 HS6 HU6 HM6 HYz6
      generalize w6.alloc (Obj.cells #[.int .i64 0] 3) = w7 at *
      generalize w6.heap.size = nb at *
      go_wp2_with fail
      refine (dlk_ok HS7.out.dv Hc.out).mono ?_
      rintro e w8 ⟨rfl, rfl⟩
      have hb8 := below_alloc w7 (Obj.cells #[.pointer (some ⟨c.A, 0, none⟩)] 62)
      have hB := Blk.new w7 62 #[.pointer (some ⟨c.A, 0, none⟩)]
      have hS := HS7.out.below hb8
      have hU := ownK_below HU7.out hb8
      have hM := HM7.out.mono (KeepsOthers.alloc w7 (Obj.cells #[.pointer (some ⟨c.A, 0, none⟩)] 62))
      have hYz := HYz7.out.below hb8 HYz7.out.lt
      have hNb := HNb7.out.below hb8 HNb7.out.lt
      clear hb8 HS7 HU7 HM7 HYz7 HNb7
      go_wp2_with fail
      generalize w7.heap.size = bp at *
      generalize w7.alloc (Obj.cells #[.pointer (some ⟨c.A, 0, none⟩)] 62) = V8 at *
      have Hkeep := Lib.hid (hS.dv.each k c Hc.out)
      refine wp_rangeB (N := c.z.ss.length) (w0 := V8) rfl (enters_of Try.func66 (by kernel_rfl) rfl) (allF_gives 7 (by decide) V8 Hkeep.out Hok.out hB) (fun h k => h.trans k) (KpRow.put (fun g hg => Hkeep.out.lt (.inr hg))) (Below.refl _ _) (fun _ => rfl)
        (fun pre W => SmD lo D vz (.slice (some ⟨g7, 0, none⟩) l.length c7) d l w W ∧ (Blk W Y 67 (z7A (rz c.z) (.slice b c.z.ss.length cu)) ∧ (Blk W nb 3 #[.int .i64 (pre.length : Int)] ∧ (W.ownsRow lo 33 64 (.slice b c.z.ss.length cu) c.z.ss.length (flat c.z.ss) ∧ (Marks w.heap.size ds W ∧ V8.heap.size ≤ W.heap.size))))) (fun cc pre _ => cc = .ret ∧ ¬ pre <+: numq c.z.ss c.z.ss.length)
        (OwnFrom.and (SmD.ownF hS.B.size) (OwnFrom.and (Own.from (blk_own (β := List (Nat × List Nat)) _ _ (fun _ => _)) _) (OwnFrom.and (Own.from (blk_own _ _ (fun pre : List (Nat × List Nat) => #[.int .i64 (pre.length : Int)])) _) (OwnFrom.and ownF_rowK (ownFrom_marks hM (Nat.le_refl _)))))) (fun cc => ownFrom_pure' (fun pre => cc = .ret ∧ ¬ pre <+: numq c.z.ss c.z.ss.length)) ⟨hS, hYz, by simpa using hNb, hU, hM, Nat.le_refl _⟩ 34 (fun x => bA (nrm x.2)) ?a1
        (fun pre x W hI => fun g' hg' => Below.heap_alloc W (Obj.cells (bA (nrm x.2)) 34) g' (hI.1.dv.lt (.inr (.inr ⟨c, List.mem_of_getElem? Hc.out, .inr hg'⟩)))) ?assign ?body ?done ?stop
      case assign =>
        intro lb pre x W K hI hK
        unfold encQ
        clear hI
        gi_wp2_with (first | (refine wplIn_store_new rfl _ _ rfl (bA (nrm x.2)) W 34 (bA (zeros 64)) rfl rfl rfl (info_sec (nrm_length _)) (by rw [bA_size, bA_size, zeros_length, nrm_length]) (bA_one _) ?_; go_frame))
        generalize W.heap.size = bx at hK ⊢
        exact hK
      case stop =>
        rintro D c pre W hD hp ⟨rfl, hn⟩ _
        exact absurd hp hn
      case body =>
        rintro lb pre ⟨xi, xs0⟩ bx W1 ⟨hI, hYw, hNw, hUw, hMw, hWw⟩ hbx hpl
        obtain ⟨gb, rfl, _, _⟩ := ownK_form hUw (by omega)
        have Hx64 := Lib.hid (nrm_length xs0)
        have Hpf := Lib.hid (fun hp => fq_iff (x := (xi, xs0)) (pre := pre) Hok.out.w64 hp)
        change Blk W1 bx 34 (bA (nrm xs0)) at hbx
        generalize hxs : nrm xs0 = xs at *
        have hbd : Below W1.heap.size W1 W1.drew := (Below.refl _ _).drew
        have HI2 := Lib.hid (hI.below hbd)
        have HYz1 := Lib.hid (hYw.below hbd hYw.lt)
        have HNb := Lib.hid (hNw.below hbd hNw.lt)
        have HBx := Lib.hid (hbx.below hbd hbx.lt)
        have HU2 := Lib.hid (ownK_below hUw hbd)
        have HM2 := Lib.hid (hMw.mono (KeepsOthers.drew _))
        have HW2 := Lib.hid (Nat.le_trans hWw hbd.size)
        have HK2 := Lib.hid (KeepsOthers.drew W1)
        have HKr2 : Hid (KpRow c.v W1 W1.drew) := Lib.hid (fun g' hg' => rfl)
        have Hnl := Lib.hid (show w.heap.size + 1 < nb by have := HYn.out; have := HYl.out; omega)
        have Hlt3 := Lib.hid hpl
        have Hrg0 := Lib.hid (fun (hlt2 : xi < c.z.ss.length) => own_range7 HU2.out rfl Hok.out.w64 xi hlt2)
        clear hI hYw hNw hbx hUw hMw hWw hbd hS hU hM hYz hNb hB hxs
        gi_upto_region 12 with fail
        by_cases hxi : xi = pre.length
        · have Hxi := Lib.hid hxi
          have Hlt2 : Hid (xi < c.z.ss.length) := Lib.hid (by omega)
          have Hrg := Lib.hid (Hrg0.out Hlt2.out)
          have Hy64 := Lib.hid (getD_64 Hok.out.w64 xi Hlt2.out)
          rw [← hxi] at Hpf
          clear hxi hpl Hrg0
          generalize c.z.ss.getD xi [] = ys at *
          by_cases hxy : xs = ys
          · have Hxy := Lib.hid hxy
            clear hxy Hpf
            refine wpIn_region_reads (by kernel_rfl) (fun _ => trivial) ?_
            generalize W1.drew = W2 at *
            change RdAny _ _ _ _ _ _ _ _
            refine takeR (i := 0) (d := 78) (v := .int .i64 (xi : Nat)) rfl rfl (by kernel_rfl) (by kernel_rfl) (by kernel_rfl) (fun c h => by cases h) (.inl ⟨by kernel_rfl, by kernel_rfl⟩) ?_
            refine takeR (i := 1) (d := 79) (v := .int .i64 (pre.length : Int)) rfl rfl (by kernel_rfl) (by kernel_rfl) (by kernel_rfl) (fun c h => by cases h) (.inl ⟨by kernel_rfl, by exact exec_cell _ rfl ⟨nb, 0, none⟩ rfl _ Try.underlying3 ((HNb.out.cell 0).trans rfl)⟩) ?_
            refine takeR (i := 2) (d := 80) (v := .bool false) rfl rfl (by kernel_rfl) (by kernel_rfl) (by kernel_rfl) (fun c h => by cases h) (.inl ⟨by kernel_rfl, by exact exec_neq _ _ rfl (xi : Nat) (pre.length : Int) rfl rfl false (by simp [Hxi.out]) rfl⟩) ?_
            refine takeR (i := 3) (d := 81) (v := .bool false) rfl rfl (by kernel_rfl) (by kernel_rfl) (by kernel_rfl) (fun c h => by cases h) (.inl ⟨by kernel_rfl, by kernel_rfl⟩) ?_
            try go_frame
            refine takeR (i := 4) (d := 82) (v := .int .i64 (xi : Nat)) rfl rfl (by kernel_rfl) (by kernel_rfl) (by kernel_rfl) (fun c h => by cases h) (.inl ⟨by kernel_rfl, by kernel_rfl⟩) ?_
            refine takeR (i := 5) (d := 83) (v := .pointer (some ⟨Y, 0, none⟩)) rfl rfl (by kernel_rfl) (by kernel_rfl) (by kernel_rfl) (fun c h => by cases h) (.inl ⟨by kernel_rfl, by kernel_rfl⟩) ?_
            refine takeR (i := 6) (d := 84) (v := .slice (some ⟨gb, 0, none⟩) c.z.ss.length cu) rfl rfl (by kernel_rfl) (by kernel_rfl) (by kernel_rfl) (fun c h => by cases h) (.inl ⟨by kernel_rfl, by exact exec_cellv _ rfl ⟨Y, 0, none⟩ rfl (.slice (some ⟨gb, 0, none⟩) c.z.ss.length cu) Try.underlying65 rfl ((HYz1.out.cell 0).trans rfl)⟩) ?_
            try go_frame
            refine takeR (i := 7) (d := 85) (v := .int .i64 (c.z.ss.length : Nat)) rfl rfl (by kernel_rfl) (by kernel_rfl) (by kernel_rfl) (fun c h => by cases h) (.inl ⟨by kernel_rfl, by exact exec_len _ rfl Try.underlying65 _ _ _ rfl⟩) ?_
            refine takeR (i := 8) (d := 86) (v := .bool false) rfl rfl (by kernel_rfl) (by kernel_rfl) (by kernel_rfl) (fun c h => by cases h) (.inl ⟨by kernel_rfl, by exact exec_geq _ _ rfl (xi : Nat) (c.z.ss.length : Nat) rfl rfl false (by have := Hlt2.out; simp; omega) rfl⟩) ?_
            refine takeR (i := 9) (d := 87) (v := .bool false) rfl rfl (by kernel_rfl) (by kernel_rfl) (by kernel_rfl) (fun c h => by cases h) (.inl ⟨by kernel_rfl, by kernel_rfl⟩) ?_
            refine takeR (i := 10) (d := 88) (v := .bool false) rfl rfl (by kernel_rfl) (by kernel_rfl) (by kernel_rfl) (fun c h => by cases h) (.inl ⟨by kernel_rfl, by kernel_rfl⟩) ?_
            try go_frame
            refine takeR (i := 11) (d := 89) (v := .agg (bA xs)) rfl rfl (by kernel_rfl) (by kernel_rfl) (by kernel_rfl) (fun c h => by cases h) (.inl ⟨by kernel_rfl, by exact exec_load _ rfl bx rfl HBx.out Try.underlying34 rfl (info_sec Hx64.out)⟩) ?_
            refine takeR (i := 12) (d := 90) (v := .pointer (some ⟨Y, 0, none⟩)) rfl rfl (by kernel_rfl) (by kernel_rfl) (by kernel_rfl) (fun c h => by cases h) (.inl ⟨by kernel_rfl, by kernel_rfl⟩) ?_
            refine takeR (i := 13) (d := 91) (v := .slice (some ⟨gb, 0, none⟩) c.z.ss.length cu) rfl rfl (by kernel_rfl) (by kernel_rfl) (by kernel_rfl) (fun c h => by cases h) (.inl ⟨by kernel_rfl, by exact exec_cellv _ rfl ⟨Y, 0, none⟩ rfl (.slice (some ⟨gb, 0, none⟩) c.z.ss.length cu) Try.underlying65 rfl ((HYz1.out.cell 0).trans rfl)⟩) ?_
            try go_frame
            refine takeR (i := 14) (d := 92) (v := .int .i64 (xi : Nat)) rfl rfl (by kernel_rfl) (by kernel_rfl) (by kernel_rfl) (fun c h => by cases h) (.inl ⟨by kernel_rfl, by kernel_rfl⟩) ?_
            refine takeR (i := 15) (d := 93) (v := .pointer (some ⟨gb, xi * 64, none⟩)) rfl rfl (by kernel_rfl) (by kernel_rfl) (by kernel_rfl) (fun c h => by cases h) (.inl ⟨by kernel_rfl, by exact exec_indexK el7S _ _ rfl gb c.z.ss.length cu xi rfl rfl Hlt2.out⟩) ?_
            refine takeR (i := 16) (d := 94) (v := .agg (bA ys)) rfl rfl (by kernel_rfl) (by kernel_rfl) (by kernel_rfl) (fun c h => by cases h) (.inl ⟨by kernel_rfl, by exact exec_load_b _ _ rfl gb (xi * 64) rfl ys _ Hrg.out Try.underlying33 rfl (by rw [bvals_length, Hy64.out]; exact Try.info7S)⟩) ?_
            try go_frame
            refine takeR (i := 17) (d := 95) (v := .bool false) rfl rfl (by kernel_rfl) (by kernel_rfl) (by kernel_rfl) (fun c h => by cases h) (.inl ⟨by kernel_rfl, by exact exec_neq_sector ty64 _ _ _ rfl xs ys rfl rfl Hx64.out Hy64.out false (by simp [Hxy.out])⟩) ?_
            refine takeR (i := 18) (d := 96) (v := .bool false) rfl rfl (by kernel_rfl) (by kernel_rfl) (by kernel_rfl) (fun c h => by cases h) (.inl ⟨by kernel_rfl, by kernel_rfl⟩) ?_
            try go_frame
            refine RdAny.done (by kernel_rfl) ?_ _
            try go_frame
            have cN : W2.cell? ⟨nb, 0, none⟩ = some (.int .i64 (pre.length : Int)) := blk_one HNb.out
            have fN := HNb.out.frozen 0
            have hl64 : (pre.length : Int) < 64 := by have := Hlt3.out; have := Hok.out.len; have := Hok.out.size.2; omega
            have hkq := (Kept.refl (· = nb) W2).setCell (p := ⟨nb, 0, none⟩) rfl (.int .i64 ((pre.length : Int) + 1))
            have hlen : ((pre ++ [(xi, xs0)]).length : Int) = (pre.length : Int) + 1 := by simp
            have HE := Lib.hid (And.intro (HI2.out.keptB HNb.out Hnl.out (by decide) (by decide) (by decide) (by decide) (by decide) (by decide) hkq) (And.intro (HYz1.out.kept hkq (by have := HYn.out; omega)) (And.intro (show Blk (W2.setCell ⟨nb, 0, none⟩ (.int .i64 ((pre.length : Int) + 1))) nb 3 #[.int .i64 ((pre ++ [(xi, xs0)]).length : Int)] by rw [hlen]; exact blk_set1 HNb.out _) (And.intro (ownK_keptB HU2.out HNb.out (by decide) hkq) (And.intro (HM2.out.mono (KeepsOthers.setCell W2 ⟨nb, 0, none⟩ (.int .i64 ((pre.length : Int) + 1)))) (Nat.le_trans HW2.out hkq.size))))))
            have HKf := Lib.hid ((HK2.out.trans (KeepsOthers.setCell W2 ⟨nb, 0, none⟩ (.int .i64 ((pre.length : Int) + 1)))).from V8.heap.size)
            have HKrf : Hid (KpRow c.v W1 (W2.setCell ⟨nb, 0, none⟩ (.int .i64 ((pre.length : Int) + 1)))) := Lib.hid (HKr2.out.trans (KpRow.set _ (fun e => HI2.out.dv.notblk HNb.out (by decide) (by decide) (by decide) (by decide) (.inr (.inr ⟨c, List.mem_of_getElem? Hc.out, .inr e⟩)))))
            clear hkq hlen
            gi_wp2
            exact ⟨HKf.out, HKrf.out, HE.out⟩
          · have Hxy := Lib.hid hxy
            have HNp := Lib.hid (fun hp => hxy (Hpf.out hp).2)
            clear hxy Hpf
            refine wpIn_region_reads (by kernel_rfl) (fun _ => trivial) ?_
            generalize W1.drew = W2 at *
            change RdAny _ _ _ _ _ _ _ _
            refine takeR (i := 0) (d := 78) (v := .int .i64 (xi : Nat)) rfl rfl (by kernel_rfl) (by kernel_rfl) (by kernel_rfl) (fun c h => by cases h) (.inl ⟨by kernel_rfl, by kernel_rfl⟩) ?_
            refine takeR (i := 1) (d := 79) (v := .int .i64 (pre.length : Int)) rfl rfl (by kernel_rfl) (by kernel_rfl) (by kernel_rfl) (fun c h => by cases h) (.inl ⟨by kernel_rfl, by exact exec_cell _ rfl ⟨nb, 0, none⟩ rfl _ Try.underlying3 ((HNb.out.cell 0).trans rfl)⟩) ?_
            refine takeR (i := 2) (d := 80) (v := .bool false) rfl rfl (by kernel_rfl) (by kernel_rfl) (by kernel_rfl) (fun c h => by cases h) (.inl ⟨by kernel_rfl, by exact exec_neq _ _ rfl (xi : Nat) (pre.length : Int) rfl rfl false (by simp [Hxi.out]) rfl⟩) ?_
            refine takeR (i := 3) (d := 81) (v := .bool false) rfl rfl (by kernel_rfl) (by kernel_rfl) (by kernel_rfl) (fun c h => by cases h) (.inl ⟨by kernel_rfl, by kernel_rfl⟩) ?_
            try go_frame
            refine takeR (i := 4) (d := 82) (v := .int .i64 (xi : Nat)) rfl rfl (by kernel_rfl) (by kernel_rfl) (by kernel_rfl) (fun c h => by cases h) (.inl ⟨by kernel_rfl, by kernel_rfl⟩) ?_
            refine takeR (i := 5) (d := 83) (v := .pointer (some ⟨Y, 0, none⟩)) rfl rfl (by kernel_rfl) (by kernel_rfl) (by kernel_rfl) (fun c h => by cases h) (.inl ⟨by kernel_rfl, by kernel_rfl⟩) ?_
            refine takeR (i := 6) (d := 84) (v := .slice (some ⟨gb, 0, none⟩) c.z.ss.length cu) rfl rfl (by kernel_rfl) (by kernel_rfl) (by kernel_rfl) (fun c h => by cases h) (.inl ⟨by kernel_rfl, by exact exec_cellv _ rfl ⟨Y, 0, none⟩ rfl (.slice (some ⟨gb, 0, none⟩) c.z.ss.length cu) Try.underlying65 rfl ((HYz1.out.cell 0).trans rfl)⟩) ?_
            try go_frame
            refine takeR (i := 7) (d := 85) (v := .int .i64 (c.z.ss.length : Nat)) rfl rfl (by kernel_rfl) (by kernel_rfl) (by kernel_rfl) (fun c h => by cases h) (.inl ⟨by kernel_rfl, by exact exec_len _ rfl Try.underlying65 _ _ _ rfl⟩) ?_
            refine takeR (i := 8) (d := 86) (v := .bool false) rfl rfl (by kernel_rfl) (by kernel_rfl) (by kernel_rfl) (fun c h => by cases h) (.inl ⟨by kernel_rfl, by exact exec_geq _ _ rfl (xi : Nat) (c.z.ss.length : Nat) rfl rfl false (by have := Hlt2.out; simp; omega) rfl⟩) ?_
            refine takeR (i := 9) (d := 87) (v := .bool false) rfl rfl (by kernel_rfl) (by kernel_rfl) (by kernel_rfl) (fun c h => by cases h) (.inl ⟨by kernel_rfl, by kernel_rfl⟩) ?_
            refine takeR (i := 10) (d := 88) (v := .bool false) rfl rfl (by kernel_rfl) (by kernel_rfl) (by kernel_rfl) (fun c h => by cases h) (.inl ⟨by kernel_rfl, by kernel_rfl⟩) ?_
            try go_frame
            refine takeR (i := 11) (d := 89) (v := .agg (bA xs)) rfl rfl (by kernel_rfl) (by kernel_rfl) (by kernel_rfl) (fun c h => by cases h) (.inl ⟨by kernel_rfl, by exact exec_load _ rfl bx rfl HBx.out Try.underlying34 rfl (info_sec Hx64.out)⟩) ?_
            refine takeR (i := 12) (d := 90) (v := .pointer (some ⟨Y, 0, none⟩)) rfl rfl (by kernel_rfl) (by kernel_rfl) (by kernel_rfl) (fun c h => by cases h) (.inl ⟨by kernel_rfl, by kernel_rfl⟩) ?_
            refine takeR (i := 13) (d := 91) (v := .slice (some ⟨gb, 0, none⟩) c.z.ss.length cu) rfl rfl (by kernel_rfl) (by kernel_rfl) (by kernel_rfl) (fun c h => by cases h) (.inl ⟨by kernel_rfl, by exact exec_cellv _ rfl ⟨Y, 0, none⟩ rfl (.slice (some ⟨gb, 0, none⟩) c.z.ss.length cu) Try.underlying65 rfl ((HYz1.out.cell 0).trans rfl)⟩) ?_
            try go_frame
            refine takeR (i := 14) (d := 92) (v := .int .i64 (xi : Nat)) rfl rfl (by kernel_rfl) (by kernel_rfl) (by kernel_rfl) (fun c h => by cases h) (.inl ⟨by kernel_rfl, by kernel_rfl⟩) ?_
            refine takeR (i := 15) (d := 93) (v := .pointer (some ⟨gb, xi * 64, none⟩)) rfl rfl (by kernel_rfl) (by kernel_rfl) (by kernel_rfl) (fun c h => by cases h) (.inl ⟨by kernel_rfl, by exact exec_indexK el7S _ _ rfl gb c.z.ss.length cu xi rfl rfl Hlt2.out⟩) ?_
            refine takeR (i := 16) (d := 94) (v := .agg (bA ys)) rfl rfl (by kernel_rfl) (by kernel_rfl) (by kernel_rfl) (fun c h => by cases h) (.inl ⟨by kernel_rfl, by exact exec_load_b _ _ rfl gb (xi * 64) rfl ys _ Hrg.out Try.underlying33 rfl (by rw [bvals_length, Hy64.out]; exact Try.info7S)⟩) ?_
            try go_frame
            refine takeR (i := 17) (d := 95) (v := .bool true) rfl rfl (by kernel_rfl) (by kernel_rfl) (by kernel_rfl) (fun c h => by cases h) (.inl ⟨by kernel_rfl, by exact exec_neq_sector ty64 _ _ _ rfl xs ys rfl rfl Hx64.out Hy64.out true (by simp [Hxy.out])⟩) ?_
            refine takeR (i := 18) (d := 96) (v := .bool true) rfl rfl (by kernel_rfl) (by kernel_rfl) (by kernel_rfl) (fun c h => by cases h) (.inl ⟨by kernel_rfl, by kernel_rfl⟩) ?_
            try go_frame
            refine RdAny.done (by kernel_rfl) ?_ _
            try go_frame
            have cT := blk_one HI2.out.T
            have fT := HI2.out.T.frozen 0
            gi_wp2
            exact ⟨(HK2.out.trans (KeepsOthers.setCell _ _ _)).from _, rfl, HNp.out⟩
        · have Hxi := Lib.hid hxi
          have HNp := Lib.hid (fun hp => hxi (Hpf.out hp).1)
          clear hxi hpl Hpf Hrg0
          refine wpIn_region_reads (by kernel_rfl) (fun _ => trivial) ?_
          generalize W1.drew = W2 at *
          change RdAny _ _ _ _ _ _ _ _
          refine takeR (i := 0) (d := 78) (v := .int .i64 (xi : Nat)) rfl rfl (by kernel_rfl) (by kernel_rfl) (by kernel_rfl) (fun c h => by cases h) (.inl ⟨by kernel_rfl, by kernel_rfl⟩) ?_
          refine takeR (i := 1) (d := 79) (v := .int .i64 (pre.length : Int)) rfl rfl (by kernel_rfl) (by kernel_rfl) (by kernel_rfl) (fun c h => by cases h) (.inl ⟨by kernel_rfl, by exact exec_cell _ rfl ⟨nb, 0, none⟩ rfl _ Try.underlying3 ((HNb.out.cell 0).trans rfl)⟩) ?_
          refine takeR (i := 2) (d := 80) (v := .bool true) rfl rfl (by kernel_rfl) (by kernel_rfl) (by kernel_rfl) (fun c h => by cases h) (.inl ⟨by kernel_rfl, by exact exec_neq _ _ rfl (xi : Nat) (pre.length : Int) rfl rfl true (by have := Hxi.out; simp; omega) rfl⟩) ?_
          refine takeR (i := 3) (d := 81) (v := .bool true) rfl rfl (by kernel_rfl) (by kernel_rfl) (by kernel_rfl) (fun c h => by cases h) (.inl ⟨by kernel_rfl, by kernel_rfl⟩) ?_
          try go_frame
          refine takeR (i := 4) (d := 82) (v := undef) rfl rfl (by kernel_rfl) (by kernel_rfl) (by kernel_rfl) (fun c h => by cases h) (.inr ⟨by kernel_rfl, rfl⟩) ?_
          refine takeR (i := 5) (d := 83) (v := undef) rfl rfl (by kernel_rfl) (by kernel_rfl) (by kernel_rfl) (fun c h => by cases h) (.inr ⟨by kernel_rfl, rfl⟩) ?_
          refine takeR (i := 6) (d := 84) (v := undef) rfl rfl (by kernel_rfl) (by kernel_rfl) (by kernel_rfl) (fun c h => by cases h) (.inr ⟨by kernel_rfl, rfl⟩) ?_
          refine takeR (i := 7) (d := 85) (v := undef) rfl rfl (by kernel_rfl) (by kernel_rfl) (by kernel_rfl) (fun c h => by cases h) (.inr ⟨by kernel_rfl, rfl⟩) ?_
          refine takeR (i := 8) (d := 86) (v := undef) rfl rfl (by kernel_rfl) (by kernel_rfl) (by kernel_rfl) (fun c h => by cases h) (.inr ⟨by kernel_rfl, rfl⟩) ?_
          try go_frame
          refine takeR (i := 9) (d := 87) (v := .bool true) rfl rfl (by kernel_rfl) (by kernel_rfl) (by kernel_rfl) (fun c h => by cases h) (.inl ⟨by kernel_rfl, by kernel_rfl⟩) ?_
          refine takeR (i := 10) (d := 88) (v := .bool true) rfl rfl (by kernel_rfl) (by kernel_rfl) (by kernel_rfl) (fun c h => by cases h) (.inl ⟨by kernel_rfl, by kernel_rfl⟩) ?_
          try go_frame
          refine takeR (i := 11) (d := 89) (v := undef) rfl rfl (by kernel_rfl) (by kernel_rfl) (by kernel_rfl) (fun c h => by cases h) (.inr ⟨by kernel_rfl, rfl⟩) ?_
          refine takeR (i := 12) (d := 90) (v := undef) rfl rfl (by kernel_rfl) (by kernel_rfl) (by kernel_rfl) (fun c h => by cases h) (.inr ⟨by kernel_rfl, rfl⟩) ?_
          refine takeR (i := 13) (d := 91) (v := undef) rfl rfl (by kernel_rfl) (by kernel_rfl) (by kernel_rfl) (fun c h => by cases h) (.inr ⟨by kernel_rfl, rfl⟩) ?_
          refine takeR (i := 14) (d := 92) (v := undef) rfl rfl (by kernel_rfl) (by kernel_rfl) (by kernel_rfl) (fun c h => by cases h) (.inr ⟨by kernel_rfl, rfl⟩) ?_
          refine takeR (i := 15) (d := 93) (v := undef) rfl rfl (by kernel_rfl) (by kernel_rfl) (by kernel_rfl) (fun c h => by cases h) (.inr ⟨by kernel_rfl, rfl⟩) ?_
          refine takeR (i := 16) (d := 94) (v := undef) rfl rfl (by kernel_rfl) (by kernel_rfl) (by kernel_rfl) (fun c h => by cases h) (.inr ⟨by kernel_rfl, rfl⟩) ?_
          refine takeR (i := 17) (d := 95) (v := undef) rfl rfl (by kernel_rfl) (by kernel_rfl) (by kernel_rfl) (fun c h => by cases h) (.inr ⟨by kernel_rfl, rfl⟩) ?_
          try go_frame
          refine takeR (i := 18) (d := 96) (v := .bool true) rfl rfl (by kernel_rfl) (by kernel_rfl) (by kernel_rfl) (fun c h => by cases h) (.inl ⟨by kernel_rfl, by kernel_rfl⟩) ?_
          try go_frame
          refine RdAny.done (by kernel_rfl) ?_ _
          try go_frame
          have cT := blk_one HI2.out.T
          have fT := HI2.out.T.frozen 0
          gi_wp2
          exact ⟨(HK2.out.trans (KeepsOthers.setCell _ _ _)).from _, rfl, HNp.out⟩
      case done =>
        rintro Dd yz W1 hD rfl ⟨hS1, hYz1, hNb1, hU1, hM1, _⟩ hd
        rw [numq_length] at hNb1
        have HS9 := Lib.hid hS1
        have HM9 := Lib.hid (Marks.cons hM hS.B.size hD hd hM1)
        have cN : W1.cell? ⟨nb, 0, none⟩ = some (.int .i64 (c.z.ss.length : Nat)) := blk_one hNb1
        have cY : W1.cell? ⟨Y, 0, none⟩ = some (.slice b c.z.ss.length cu) := (hYz1.cell 0).trans rfl
        clear hS hU hM hYz hNb hB hS1 hYz1 hNb1 hU1 hM1 hd
        go_wp2_with fail
        exact ⟨RelD.mk (k + 1) rfl ⟨rfl, rfl, rfl, rfl, rfl, rfl, rfl, rfl, rfl, rfl, rfl, rfl, rfl, rfl, rfl, rfl, rfl, rfl, rfl, rfl, rfl, rfl, rfl, rfl, rfl, rfl, rfl, rfl, rfl, rfl, rfl, rfl, rfl, rfl, rfl, rfl, rfl, rfl, rfl, rfl, rfl, rfl, rfl, rfl, rfl, rfl, rfl, rfl, (show Value.int .i64 ((k : Int) + 1) = .int .i64 ((k + 1 : Nat) : Int) by go_num), rfl, rfl, rfl, rfl, rfl, rfl, rfl⟩ (by omega) HS9.out HM9.out, by simp [intOf]; omega⟩
    · obtain rfl : k = l.length := by omega
      have Hno : Hid (dhB l.length ((l.length : Nat) : Int) = false) := Lib.hid (by unfold dhB; simp)
      have cX : V.cell? ⟨w.heap.size, 0, none⟩ = some (.slice a7 l.length c7) := (HSr.out.X.cell 0).trans rfl
      go_wp2_with fail
      refine (dlk_no _ HSr.out.dv Hno.out).mono ?_
      rintro e w4 ⟨rfl, hw4⟩
      subst hw4
      have hS := HSr.out
      have hM := HMr.out
      clear HSr HMr
      go_wp2_with fail
      refine wp_rangeK (N := 0) (w0 := V) rfl (enters_of Try.func61 (by kernel_rfl) rfl) (lookF_gives 7 V) (fun _ _ => trivial) (fun _ _ _ _ _ _ _ _ => trivial) (Below.refl _ _) (fun _ => rfl)
        (fun pre W => SmD lo D vz (.slice a7 l.length c7) d l w W ∧ (Marks w.heap.size ds W ∧ V.heap.size ≤ W.heap.size)) (fun _ _ _ => False)
        (OwnFrom.and (SmD.ownF hS.B.size) (ownFrom_marks hM (Nat.le_refl _))) (fun _ => ownFrom_pure' (fun _ => False)) ⟨hS, hM, Nat.le_refl _⟩ ?a2 ?assign2 ?body2 ?done2 ?stop2
      case assign2 =>
        intro l x W K hK
        unfold encQ
        gi_wp2
        exact hK
      case stop2 =>
        rintro Dd cc pre W hD hp h _
        exact h.elim
      case body2 =>
        rintro lb pre x W hI hpl
        exact absurd hpl (by omega)
      case done2 =>
      rintro Dd yz W1 hD rfl ⟨hS1, hM1, _⟩ hd
      have HM9 := Lib.hid (Marks.cons hM hS.B.size hD hd hM1)
      have HS9 := Lib.hid hS1
      have cT := blk_one HS9.out.T
      have fT := HS9.out.T.frozen 0
      clear hS hM hS1 hM1 hd cX
      go_wp2_with fail
      exact leave_marks (HM9.out.mono (KeepsOthers.setCell _ _ _)) (fun w' hw' => ⟨_, results_cell1 Try.results13 _ _ ⟨w.heap.size + 1, 0, none⟩ (.bool true) rfl (agg_bool _) (blk_one (hw'.same _ _ _ (blk_set1 HS9.out.T (.bool true)))), rfl, (HS9.out.B.setCell (p := ⟨w.heap.size + 1, 0, none⟩) (Nat.le_succ _) _).trans hw'.bel⟩)

end Go.Proofs.Ytlngdndamgopeaa

