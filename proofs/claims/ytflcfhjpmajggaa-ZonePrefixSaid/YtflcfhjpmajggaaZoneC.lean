/-
  Contracts of layer 6 (zone), at int: Safe, Finish, Flush, Fail, Crash, Change.
-/
import Derived.Test.YtflcfhjpmajggaaZoneB
import Derived.Recover
import Derived.Defers
namespace Go.Proofs.Ytflcfhjpmajggaa
open Go.RowKit
set_option linter.unusedVariables false
set_option linter.unnecessarySimpa false
set_option linter.unusedSimpArgs false

/-- What Finish, Flush, Fail, Crash leave. -/
def fnZ (z : ZoR) : ZoR := if refI z = 0 then { z with fin := true } else z
def flZ (z : ZoR) : ZoR := { z with safe := (z.xs.length : Int) }
def faZ (z : ZoR) (st : Int) : ZoR := if st = 4 ∨ st = 3 ∧ z.failed ≠ 4 then { z with failed := st } else z
def keepN (z : ZoR) (k : Int) : Nat := (z.safe + min (max k 0) ((z.xs.length : Int) - z.safe)).toNat
def crZ (z : ZoR) (k : Int) : ZoR := { z with xs := z.xs.take (keepN z k), safe := (keepN z k : Int) }
/-- The exclusive or of two ints, as the model has it. -/
def xorI (a b : Int) : Int := bits .xor .i64 a b

set_option maxRecDepth 100000 in
set_option maxHeartbeats 2000000 in
theorem zsa {lo A : Nat} {v : Value} {z : ZoR} {w : World} (hz : ZAt 56 3 lo w A v z) : Calls Try.prog 12 #[.pointer (some ⟨A, 0, none⟩)] w fun e w' => e = .returned (.int .i64 z.safe) ∧ w = w' := by
  have c2 : w.cell? ⟨A, 2, none⟩ = some (.int .i64 z.safe) := (hz.blk.cell 2).trans rfl
  clear hz
  go_enter Try.func12, Try.ntmps12
  go_wp2
  go_ret
  exact ⟨rfl, rfl⟩

theorem zset {lo A : Nat} {v : Value} {z : ZoR} {w : World} (i : Nat) (u : Value) {z' : ZoR} (hz : ZAt 56 3 lo w A v z) (hs : (zoA z v).setIfInBounds i u = zoA z' v) (hx : z'.xs = z.xs) : ZTo 56 3 lo w A v (z') (w.setCell ⟨A, i, none⟩ u) := by
  have hb := hz.blk.set i u
  rw [hs] at hb
  refine ⟨v, ⟨hb, ?_, hz.le⟩, zf_set, fun g h => .inl h⟩
  rw [hx]
  exact own_same hz.own (fun g hg => Below.heap_setCell _ _ _ _ (fun e => own_unlike hz.own hz.blk (by decide) (by rw [hg]; exact congrArg some e.symm)))

set_option maxRecDepth 100000 in
set_option maxHeartbeats 2000000 in
theorem zfn {lo A : Nat} {v : Value} {z : ZoR} {w : World} (hz : ZAt 56 3 lo w A v z) : Calls Try.prog 15 #[.pointer (some ⟨A, 0, none⟩)] w fun e w' => e = .returned (.int .i64 (refI z)) ∧ ZTo 56 3 lo w A v (fnZ z) w' := by
  have Hz := Lib.hid hz
  clear hz
  by_cases h1 : refI z = 0
  · have hZ : fnZ z = { z with fin := true } := by unfold fnZ; rw [if_pos h1]
    rw [hZ, h1]
    have H1 := Lib.hid h1
    have c3 : w.cell? ⟨A, 3, none⟩ = some (.bool z.fin) := (Hz.out.blk.cell 3).trans rfl
    have f3 := Hz.out.blk.frozen 3
    clear h1 hZ
    go_enter Try.func15, Try.ntmps15
    go_wp2_with fail
    refine (zrefI Hz.out).mono ?_
    rintro e w' ⟨rfl, rfl⟩
    rw [H1.out]
    go_wp2_with fail
    go_ret
    exact ⟨rfl, zset 3 (.bool true) Hz.out rfl rfl⟩
  · have hZ : fnZ z = z := by unfold fnZ; rw [if_neg h1]
    rw [hZ]
    have h1' : (refI z != 0) = true := by simpa using h1
    clear h1 hZ
    go_enter Try.func15, Try.ntmps15
    go_wp2_with fail
    refine (zrefI Hz.out).mono ?_
    rintro e w' ⟨rfl, rfl⟩
    go_wp2_with fail
    go_ret
    exact ⟨rfl, ZTo.same Hz.out (Below.refl _ _)⟩

set_option maxRecDepth 100000 in
set_option maxHeartbeats 2000000 in
theorem zfl {lo A : Nat} {v : Value} {z : ZoR} {w : World} (hz : ZAt 56 3 lo w A v z) : Calls Try.prog 16 #[.pointer (some ⟨A, 0, none⟩)] w fun e w' => e = .returned (.tuple #[]) ∧ ZTo 56 3 lo w A v (flZ z) w' := by
  have c2 : w.cell? ⟨A, 2, none⟩ = some (.int .i64 z.safe) := (hz.blk.cell 2).trans rfl
  have f2 := hz.blk.frozen 2
  have Hz := Lib.hid hz
  clear hz
  go_enter Try.func16, Try.ntmps16
  go_wp2_with fail
  refine (zlenI Hz.out).mono ?_
  rintro e w' ⟨rfl, rfl⟩
  go_wp2_with fail
  go_end0
  exact ⟨rfl, zset 2 (.int .i64 (z.xs.length : Nat)) Hz.out rfl rfl⟩

set_option maxRecDepth 100000 in
set_option maxHeartbeats 2000000 in
theorem zfa {lo A : Nat} {v : Value} {z : ZoR} {w : World} (st : Int) (hz : ZAt 56 3 lo w A v z) : Calls Try.prog 19 #[.pointer (some ⟨A, 0, none⟩), .int .i64 st] w fun e w' => e = .returned (.tuple #[]) ∧ ZTo 56 3 lo w A v (faZ z st) w' := by
  have c4 : w.cell? ⟨A, 4, none⟩ = some (.int .i64 z.failed) := (hz.blk.cell 4).trans rfl
  have f4 := hz.blk.frozen 4
  have Hz := Lib.hid hz
  clear hz
  by_cases h4 : st = 4
  · have hZ : faZ z st = { z with failed := st } := by unfold faZ; rw [if_pos (.inl h4)]
    rw [hZ]
    subst h4
    clear hZ
    go_enter Try.func19, Try.ntmps19
    go_wp2_with fail
    first | go_end0 | refine bodyPost_ret (results_none rfl _ _ _) rfl ?_
    exact ⟨rfl, zset 4 (.int .i64 4) Hz.out rfl rfl⟩
  · have d4 : (st == 4) = false := by simpa using h4
    by_cases h3 : st = 3
    · by_cases hf : z.failed = 4
      · have hZ : faZ z st = z := by unfold faZ; rw [if_neg (fun h => h.elim h4 (fun h => h.2 hf))]
        rw [hZ]
        rw [hf] at c4
        subst h3
        clear hZ h4 d4 hf
        go_enter Try.func19, Try.ntmps19
        go_wp2_with fail
        first | go_end0 | refine bodyPost_ret (results_none rfl _ _ _) rfl ?_
        exact ⟨rfl, ZTo.same Hz.out (Below.refl _ _)⟩
      · have hZ : faZ z st = { z with failed := st } := by unfold faZ; rw [if_pos (.inr ⟨h3, hf⟩)]
        rw [hZ]
        have df : (z.failed != 4) = true := by simpa using hf
        subst h3
        clear hZ h4 d4 hf
        go_enter Try.func19, Try.ntmps19
        go_wp2_with fail
        first | go_end0 | refine bodyPost_ret (results_none rfl _ _ _) rfl ?_
        exact ⟨rfl, zset 4 (.int .i64 3) Hz.out rfl rfl⟩
    · have hZ : faZ z st = z := by unfold faZ; rw [if_neg (fun h => h.elim h4 (fun h => h3 h.1))]
      rw [hZ]
      have d3 : (st == 3) = false := by simpa using h3
      clear hZ h4 h3
      go_enter Try.func19, Try.ntmps19
      go_wp2_with fail
      first | go_end0 | refine bodyPost_ret (results_none rfl _ _ _) rfl ?_
      exact ⟨rfl, ZTo.same Hz.out (Below.refl _ _)⟩

theorem ztold1 (p q : Addr) (w : World) : CallsD Try.prog 45 #[.pointer (some p), .pointer (some q)] .returning w fun e u' w' => e = .returned (.tuple #[]) ∧ u' = .returning ∧ w' = w := by
  refine callsD_of_wpS Try.func45 rfl fun c₀ cs hu => ?_
  apply wpS_seq
  apply wpS_region
  simp [wpOpsS, go_sem, recoverD, hu, Try.ntmps45, Exit.thenS]
  refine wpS_cond (t := false) (by simp [Act.eval, Array.replicate]) ?_
  simp only [Bool.false_eq_true, if_false]
  refine wpS_of_wp (wp_skip ?_)
  cases c₀
  simp_all [bodyPostS, results, Try.results45]

set_option maxRecDepth 100000 in
set_option maxHeartbeats 2000000 in
theorem zstep1 (x y : Int) (b : Nat) (w : World) (hb : w.cell? ⟨b, 2, none⟩ = some (.int .i64 y)) : Calls Try.prog 36 #[.int .i64 x, .pointer (some ⟨b, 0, none⟩)] w fun e w' => e = .returned (.int .i64 (xorI x y)) ∧ w = w' := by
  go_enter Try.func36, Try.ntmps36
  go_wp2
  go_ret
  exact ⟨rfl, rfl⟩

set_option maxRecDepth 100000 in
set_option maxHeartbeats 2000000 in
theorem ztold (x y : Int) (b : Nat) (w : World) (hb : w.cell? ⟨b, 2, none⟩ = some (.int .i64 y)) : Calls Try.prog 44 #[.func (.func 36) #[] #[.pointer (some ⟨b, 0, none⟩)], .int .i64 x] w fun e w' => e = .returned (.int .i64 (xorI x y)) ∧ Below w.heap.size w w' := by
  have hmf : ∀ (fn : Fn) (first cap : Array Value) (w : World), (Instr.makeFunc fn first cap).run Try.prog w = .ok (.func fn first cap) w := fun _ _ _ _ => rfl
  have hlt := block_lt_of_cell hb
  have hb2 : ((w.alloc (Obj.cells #[.int .i64 x] 3)).alloc (Obj.cells #[.int .i64 0] 3)).cell? ⟨b, 2, none⟩ = some (.int .i64 y) := ((bthen (below_alloc w _) (below_alloc _ _)).cell (p := ⟨b, 2, none⟩) hlt).trans hb
  clear hb
  go_enter_defers Try.func44, Try.ntmps44
  go_wp2
  refine leaves_cons (f := 45) (args := #[.pointer (some ⟨w.heap.size, 0, none⟩), .pointer (some ⟨w.heap.size + 1, 0, none⟩)]) (by simp) (by simp [go_sem]) ?_
  refine (ztold1 _ _ _).mono ?_
  rintro e u' w'' ⟨rfl, rfl, rfl⟩
  simp [Leaves, settle, results, Try.results44, go_sem]
  exact ⟨rfl, bthen (below_alloc w _) (below_alloc _ _)⟩

theorem keepN_bd {z : ZoR} (hok : ZOk z) (k : Int) : (keepN z k : Int) = z.safe + min (max k 0) ((z.xs.length : Int) - z.safe) ∧ keepN z k ≤ z.xs.length ∧ z.safe ≤ (keepN z k : Int) := by
  obtain ⟨h1, h2⟩ := hok.safe
  unfold keepN
  omega
theorem zcr_push {lo A : Nat} {v : Value} {z : ZoR} {w : World} {w3 : World} {g n : Nat} {ys : List Value} (hz : ZAt 56 3 lo w A v z) (hb : Below w.heap.size w w3) (hg : w.heap.size ≤ g) (hlo : lo ≤ w.heap.size) (B : Blk w3 g 3 ys.toArray) (hn : ys.length = n) (hn2 : n ≤ 1000000) :
    ZAt 56 3 lo (w3.setCell ⟨A, 1, none⟩ (.slice (some ⟨g, 0, none⟩) n n)) A (.slice (some ⟨g, 0, none⟩) n n) { z with xs := ys } ∧ Kept (ZF A v) w (w3.setCell ⟨A, 1, none⟩ (.slice (some ⟨g, 0, none⟩) n n)) ∧ ∀ k, (Value.slice (some ⟨g, 0, none⟩) n n).ownBlock = some k → v.ownBlock = some k ∨ w.heap.size ≤ k := by
  have hl := hz.blk.lt
  refine ⟨⟨(hz.blk.below hb hl).set 1 _, ?_, hz.le⟩, (Kept.of_below hb).setCell (p := ⟨A, 1, none⟩) (.inl rfl) _, fun k hk => .inr (by simp [Value.ownBlock] at hk; omega)⟩
  subst hn
  refine ⟨by simp, .inr ⟨g, ys.length, ys.toArray, rfl, by omega, B.far (by simp; omega) _, Nat.le_refl _, by unfold maxLen; omega, by simp, by simp⟩⟩
set_option maxRecDepth 100000 in
set_option maxHeartbeats 2000000 in
theorem zcr {lo A : Nat} {v : Value} {z : ZoR} {w : World} (k : Int) (hz : ZAt 56 3 lo w A v z) (hok : ZOk z) (hlo : lo ≤ w.heap.size) : Calls Try.prog 17 #[.pointer (some ⟨A, 0, none⟩), .int .i64 k] w fun e w' => e = .returned (.tuple #[]) ∧ ZTo 56 3 lo w A v (crZ z k) w' := by
  have Hz := Lib.hid hz
  have Hok := Lib.hid hok
  have Hb := Lib.hid hz.blk
  obtain ⟨s1, s2⟩ := hok.safe
  have l1 : (z.xs.length : Int) ≤ 64 := Int.le_trans hok.len hok.size.2
  obtain ⟨n1, n2, n3⟩ := keepN_bd hok k
  have hK : min (max k 0) ((z.xs.length : Int) - z.safe) = (keepN z k : Int) - z.safe := by omega
  have Hn1 := Lib.hid n1
  unfold crZ
  clear hz hok n1
  generalize keepN z k = n at *
  obtain ⟨K, hKe⟩ : ∃ K, K = (n : Int) - z.safe := ⟨_, rfl⟩
  rw [← hKe] at hK
  have HKe := Lib.hid hKe
  clear hKe
  go_enter Try.func17, Try.ntmps17
  go_upto_region 0 with fail
  refine wp_region_held (S := fun w' => Below w.heap.size w w') (by kernel_rfl) ?_
  change wpAnyH _ _ _ _ _ _ _ _ (World.drew _)
  have hS : Below w.heap.size w w.drew := (Below.refl _ _).drew
  refine takeH hS (i := 0) (d := 5) (v := .int .i64 (k)) rfl rfl (by kernel_rfl) (by kernel_rfl) (by kernel_rfl) (fun _ _ _ h => h) (Or.inl ⟨by kernel_rfl, fun w' hw' => by kernel_rfl⟩) ?_
  refine takeH hS (i := 1) (d := 6) (v := .int .i64 (max k 0)) rfl rfl (by kernel_rfl) (by kernel_rfl) (by kernel_rfl) (fun _ _ _ h => h) (Or.inl ⟨by kernel_rfl, fun w' hw' => by exact exec_max _ _ _ rfl (k) (0) (max k 0) rfl rfl (rfl)⟩) ?_
  refine takeH hS (i := 2) (d := 7) (v := .pointer (some ⟨A, 0, none⟩)) rfl rfl (by kernel_rfl) (by kernel_rfl) (by kernel_rfl) (fun _ _ _ h => h) (Or.inl ⟨by kernel_rfl, fun w' hw' => by kernel_rfl⟩) ?_
  refine takeH hS (i := 4) (d := 9) (v := .pointer (some ⟨A, 0, none⟩)) rfl rfl (by kernel_rfl) (by kernel_rfl) (by kernel_rfl) (fun _ _ _ h => h) (Or.inl ⟨by kernel_rfl, fun w' hw' => by kernel_rfl⟩) ?_
  try go_frame
  refine takeH hS (i := 5) (d := 10) (v := .pointer (some ⟨A, 0, none⟩)) rfl rfl (by kernel_rfl) (by kernel_rfl) (by kernel_rfl) (fun _ _ _ h => h) (Or.inl ⟨by kernel_rfl, fun w' hw' => by kernel_rfl⟩) ?_
  refine takeH hS (i := 6) (d := 11) (v := .pointer (some ⟨A, 2, none⟩)) rfl rfl (by kernel_rfl) (by kernel_rfl) (by kernel_rfl) (fun _ _ _ h => h) (Or.inl ⟨by kernel_rfl, fun w' hw' => by kernel_rfl⟩) ?_
  refine takeH hS (i := 7) (d := 12) (v := .int .i64 (z.safe)) rfl rfl (by kernel_rfl) (by kernel_rfl) (by kernel_rfl) (fun _ _ _ h => h) (Or.inl ⟨by kernel_rfl, fun w' hw' => by exact exec_cell _ rfl ⟨A, 2, none⟩ rfl _ Try.underlying3 (((Hb.out.below hw' Hb.out.lt).cell 2).trans (rfl))⟩) ?_
  try go_frame
  refine nextH (i := 3) rfl (by kernel_rfl) (by kernel_rfl) (fun K' hK => ?_)
  go_wp2_with fail
  refine (zlenI (Hz.out.below hS)).mono ?_
  rintro en wc1 ⟨rfl, hb0⟩
  have hb := below_eq hb0
  clear hb0
  have hS1 : Below w.heap.size w wc1 := bel_next hS hb
  refine hK.out _ _ ⟨hS1, ?_⟩
  clear hK K' hb hS
  refine takeH hS1 (i := 8) (d := 13) (v := .int .i64 ((z.xs.length : Int) - z.safe)) rfl rfl (by kernel_rfl) (by kernel_rfl) (by kernel_rfl) (fun _ _ _ h => h) (Or.inl ⟨by kernel_rfl, fun w' hw' => by exact exec_sub _ _ rfl ((z.xs.length : Nat)) (z.safe) ((z.xs.length : Int) - z.safe) rfl rfl (rfl) (by omega)⟩) ?_
  refine takeH hS1 (i := 9) (d := 14) (v := .int .i64 (K)) rfl rfl (by kernel_rfl) (by kernel_rfl) (by kernel_rfl) (fun _ _ _ h => h) (Or.inl ⟨by kernel_rfl, fun w' hw' => by exact exec_min _ _ _ rfl (max k 0) ((z.xs.length : Int) - z.safe) (K) rfl rfl (hK)⟩) ?_
  refine takeH hS1 (i := 10) (d := 1) (v := .int .i64 (K)) rfl rfl (by kernel_rfl) (by kernel_rfl) (by kernel_rfl) (fun _ _ _ h => h) (Or.inl ⟨by kernel_rfl, fun w' hw' => by kernel_rfl⟩) ?_
  refine wpAnyH_done (by kernel_rfl) ?_ _
  try go_frame
  have hz1 := Hz.out.below hS1
  have HS := Lib.hid hS1
  obtain ⟨a, cap, hv, hc1, hc2⟩ := hz1.slice
  subst hv
  have c1 : wc1.cell? ⟨A, 1, none⟩ = some (.slice a z.xs.length cap) := (hz1.blk.cell 1).trans rfl
  have c2 : wc1.cell? ⟨A, 2, none⟩ = some (.int .i64 z.safe) := (hz1.blk.cell 2).trans rfl
  have hsum : IntKind.i64.wrap (z.safe + K) = (n : Int) := by rw [HKe.out, show z.safe + ((n : Int) - z.safe) = (n : Int) by omega]; exact IntWalk.i64_in _ (by omega)
  have Hz1 := Lib.hid hz1
  clear hz1 hS1 hK
  have hmk := run_makeV elI rfl wc1 n (by omega)
  have hl : (z.xs.take n).length = n := by simp; omega
  have Hl := Lib.hid hl
  have Hlo := Lib.hid hlo
  clear hl hlo
  have hw2 := bthen HS.out (below_alloc wc1 (Obj.cells (zerosV n (.int .i64 0)) 3))
  have HW2 := Lib.hid hw2
  have HB2 := Lib.hid (Blk.new wc1 3 (zerosV n (.int .i64 0)))
  have HO2 := Lib.hid (own_below Hz1.out.own (below_alloc wc1 (Obj.cells (zerosV n (.int .i64 0)) 3)))
  have hgw : w.heap.size ≤ wc1.heap.size := HS.out.size
  clear hw2
  go_upto_region 2 with fail
  clear hmk c1 c2 hsum
  have c1 := (Hz1.out.blk.below (below_alloc wc1 (Obj.cells (zerosV n (.int .i64 0)) 3)) Hz1.out.blk.lt).cell 1
  rw [show (zoA z (.slice a z.xs.length cap))[1]? = some (.slice a z.xs.length cap) from rfl] at c1
  generalize wc1.alloc (Obj.cells (zerosV n (.int .i64 0)) 3) = w2 at *
  generalize wc1.heap.size = g at *
  go_wp2_with (refine wpl_copyV elI rfl (.tmp 22) (.tmp 26) rfl g n (List.replicate n (.int .i64 0)) (by simp) rfl HB2.out lo _ _ _ rfl HO2.out n2 Hok.out.one ?_; intro w3 hB3 hb3; have hA3 := Hz.out.blk.below (HW2.out.trans (hb3.mono hgw)) Hz.out.blk.lt; have c1b : w3.cell? ⟨A, 1, none⟩ = some (.slice a z.xs.length cap) := (hA3.cell 1).trans rfl; have f1b := hA3.frozen 1; have HP := Lib.hid (zcr_push Hz.out (HW2.out.trans (hb3.mono hgw)) hgw Hlo.out hB3 Hl.out (by omega)); clear hA3 hB3 hb3; go_frame)
  refine (zfl HP.out.1).mono ?_
  rintro e w5 ⟨rfl, hT⟩
  have hT2 := ZTo.step HP.out.2.1 HP.out.2.2 hT
  rw [show flZ ({ z with xs := z.xs.take n } : ZoR) = { z with xs := z.xs.take n, safe := (n : Int) } by unfold flZ; rw [show (({ z with xs := z.xs.take n } : ZoR).xs.length) = n from Hl.out]] at hT2
  have HT2 := Lib.hid hT2
  clear hT hT2
  go_wp2_with fail
  go_end0
  exact ⟨rfl, HT2.out⟩

/-- What a Change tells, and leaves. -/
def chE (z : ZoR) (off : Int) : Int := if holB z off = true then 0 else 31
def chZ (z : ZoR) (zs : List Int) (off y : Int) : ZoR := if holB z off = true then { z with xs := ivals (zs.set off.toNat (xorI (zs.getD off.toNat 0) y)) } else z
theorem zch_push {lo A : Nat} {z : ZoR} {w : World} {g i cap : Nat} {w2 : World} {zs : List Int} {x : Int} (hz : ZAt 56 3 lo w A (.slice (some ⟨g, 0, none⟩) z.xs.length cap) z) (hzs : z.xs = ivals zs) (hb : Below w.heap.size w w2) :
    ZTo 56 3 lo w A (.slice (some ⟨g, 0, none⟩) z.xs.length cap) { z with xs := ivals (zs.set i x) } (w2.setCell ⟨g, i, none⟩ (.int .i64 x)) := by
  have h2 := hz.below hb
  have hg : g ≠ A := fun e => own_unlike (g := A) h2.own h2.blk (by decide) (by simp [Value.ownBlock, e])
  obtain ⟨h3, h4⟩ := h2.own.stored i (.int .i64 x)
  have hl : (ivals (zs.set i x)).length = z.xs.length := by rw [hzs, ivals_length, ivals_length, List.length_set]
  refine ⟨.slice (some ⟨g, 0, none⟩) z.xs.length cap, ⟨h2.blk.far (by simp; exact fun e => hg e.symm) _, ?_, hz.le⟩, (Kept.of_below hb).setCell (p := ⟨g, i, none⟩) (.inr rfl) _, fun k hk => .inl hk⟩
  show World.ownsRow _ lo 3 1 _ (ivals (zs.set i x)).length (ivals (zs.set i x))
  rw [hl, ← ivals_set, ← hzs]
  exact h3
set_option maxRecDepth 100000 in
set_option maxHeartbeats 2000000 in
theorem zch {lo A : Nat} {v : Value} {z : ZoR} {w : World} (off y : Int) (b : Nat) (k0 x0 : Int) (zs : List Int) (hz : ZAt 56 3 lo w A v z) (hok : ZOk z) (hzs : z.xs = ivals zs) (hb : Blk w b 32 #[.int .i64 k0, .int .i64 x0, .int .i64 y]) : Calls Try.prog 35 #[.pointer (some ⟨A, 0, none⟩), .int .i64 off, .func (.func 36) #[] #[.pointer (some ⟨b, 0, none⟩)]] w fun e w' => e = .returned (.int .i64 (chE z off)) ∧ ZTo 56 3 lo w A v (chZ z zs off y) w' := by
  cases hh : holB z off with
  | false =>
    have hE : chE z off = 31 := by unfold chE; rw [if_neg (by rw [hh]; decide)]
    have hZ : chZ z zs off y = z := by unfold chZ; rw [if_neg (by rw [hh]; decide)]
    rw [hE, hZ]
    have Hh := Lib.hid hh
    have Hz := Lib.hid hz
    clear hz hE hZ hh hok hzs hb
    go_enter Try.func35, Try.ntmps35
    go_wp2_with fail
    refine (zholI off Hz.out).mono ?_
    rintro e w' ⟨rfl, rfl⟩
    rw [Hh.out]
    go_wp2_with fail
    go_ret
    exact ⟨rfl, ZTo.same Hz.out (Below.refl _ _)⟩
  | true =>
    have hE : chE z off = 0 := by unfold chE; rw [if_pos hh]
    have hZ : chZ z zs off y = { z with xs := ivals (zs.set off.toNat (xorI (zs.getD off.toNat 0) y)) } := by unfold chZ; rw [if_pos hh]
    rw [hE, hZ]
    have Hh := Lib.hid hh
    obtain ⟨o1, o2⟩ : 0 ≤ off ∧ off < (z.xs.length : Int) := by unfold holB at hh; simpa using hh
    obtain ⟨i, rfl⟩ := Int.eq_ofNat_of_zero_le o1
    rw [Int.toNat_natCast]
    have hi : i < z.xs.length := by omega
    obtain ⟨a, cap, rfl, hc1, hc2⟩ := hz.slice
    unfold maxLen at hc2
    obtain ⟨g, rfl, hg1, hg2, hg3, hg4⟩ := own_at hz.own i hi
    have hAg : ¬ A = g := fun e => own_unlike (g := A) hz.own hz.blk (by decide) (by simp [Value.ownBlock, e])
    have hbg : ¬ b = g := fun e => own_unlike (g := b) hz.own hb (by decide) (by simp [Value.ownBlock, e])
    have hx : z.xs[i]? = some (.int .i64 (zs.getD i 0)) := by rw [hzs]; exact ivals_at zs i (by rw [hzs, ivals_length] at hi; exact hi)
    rw [hx] at hg3
    have Hz := Lib.hid hz
    have Hb := Lib.hid hz.blk
    have HB := Lib.hid hb
    have Hzs := Lib.hid hzs
    have Hg3 := Lib.hid hg3
    have Hg4 := Lib.hid hg4
    clear hz hE hZ hh hok hzs hb hx hg1 hg3 hg4
    generalize zs.getD i 0 = X at *
    go_enter Try.func35, Try.ntmps35
    go_wp2_with fail
    refine (zholI (i : Int) Hz.out).mono ?_
    rintro e w' ⟨rfl, rfl⟩
    rw [Hh.out]
    go_upto_region 3 with fail
    · refine wp_region_held (S := fun w' => Kept (· = g) w w') (by kernel_rfl) ?_
      change wpAnyH _ _ _ _ _ _ _ _ (World.drew _)
      have hS : Kept (· = g) w w.drew := (Kept.refl _ w).drew
      refine takeH hS (i := 0) (d := 11) (v := .pointer (some ⟨A, 0, none⟩)) rfl rfl (by kernel_rfl) (by kernel_rfl) (by kernel_rfl) (fun _ _ _ h => h) (Or.inl ⟨by kernel_rfl, fun w' hw' => by kernel_rfl⟩) ?_
      refine takeH hS (i := 1) (d := 12) (v := .pointer (some ⟨A, 0, none⟩)) rfl rfl (by kernel_rfl) (by kernel_rfl) (by kernel_rfl) (fun _ _ _ h => h) (Or.inl ⟨by kernel_rfl, fun w' hw' => by kernel_rfl⟩) ?_
      refine takeH hS (i := 2) (d := 13) (v := .pointer (some ⟨A, 1, none⟩)) rfl rfl (by kernel_rfl) (by kernel_rfl) (by kernel_rfl) (fun _ _ _ h => h) (Or.inl ⟨by kernel_rfl, fun w' hw' => by kernel_rfl⟩) ?_
      refine takeH hS (i := 3) (d := 14) (v := .slice (some ⟨g, 0, none⟩) z.xs.length cap) rfl rfl (by kernel_rfl) (by kernel_rfl) (by kernel_rfl) (fun _ _ _ h => h) (Or.inl ⟨by kernel_rfl, fun w' hw' => by exact exec_cellv _ rfl ⟨A, 1, none⟩ rfl (.slice (some ⟨g, 0, none⟩) z.xs.length cap) Try.underlying28 rfl (((Hb.out.kept hw' hAg).cell 1).trans rfl)⟩) ?_
      try go_frame
      refine takeH hS (i := 4) (d := 15) (v := .int .i64 (i : Nat)) rfl rfl (by kernel_rfl) (by kernel_rfl) (by kernel_rfl) (fun _ _ _ h => h) (Or.inl ⟨by kernel_rfl, fun w' hw' => by kernel_rfl⟩) ?_
      refine takeH hS (i := 5) (d := 16) (v := .func (.func 36) #[] #[.pointer (some ⟨b, 0, none⟩)]) rfl rfl (by kernel_rfl) (by kernel_rfl) (by kernel_rfl) (fun _ _ _ h => h) (Or.inl ⟨by kernel_rfl, fun w' hw' => by kernel_rfl⟩) ?_
      refine takeH hS (i := 6) (d := 17) (v := .pointer (some ⟨A, 0, none⟩)) rfl rfl (by kernel_rfl) (by kernel_rfl) (by kernel_rfl) (fun _ _ _ h => h) (Or.inl ⟨by kernel_rfl, fun w' hw' => by kernel_rfl⟩) ?_
      refine takeH hS (i := 7) (d := 18) (v := .pointer (some ⟨A, 0, none⟩)) rfl rfl (by kernel_rfl) (by kernel_rfl) (by kernel_rfl) (fun _ _ _ h => h) (Or.inl ⟨by kernel_rfl, fun w' hw' => by kernel_rfl⟩) ?_
      refine takeH hS (i := 8) (d := 19) (v := .pointer (some ⟨A, 1, none⟩)) rfl rfl (by kernel_rfl) (by kernel_rfl) (by kernel_rfl) (fun _ _ _ h => h) (Or.inl ⟨by kernel_rfl, fun w' hw' => by kernel_rfl⟩) ?_
      try go_frame
      refine takeH hS (i := 9) (d := 20) (v := .slice (some ⟨g, 0, none⟩) z.xs.length cap) rfl rfl (by kernel_rfl) (by kernel_rfl) (by kernel_rfl) (fun _ _ _ h => h) (Or.inl ⟨by kernel_rfl, fun w' hw' => by exact exec_cellv _ rfl ⟨A, 1, none⟩ rfl (.slice (some ⟨g, 0, none⟩) z.xs.length cap) Try.underlying28 rfl (((Hb.out.kept hw' hAg).cell 1).trans rfl)⟩) ?_
      refine takeH hS (i := 10) (d := 21) (v := .int .i64 (i : Nat)) rfl rfl (by kernel_rfl) (by kernel_rfl) (by kernel_rfl) (fun _ _ _ h => h) (Or.inl ⟨by kernel_rfl, fun w' hw' => by kernel_rfl⟩) ?_
      refine takeH hS (i := 11) (d := 22) (v := .pointer (some ⟨g, i, none⟩)) rfl rfl (by kernel_rfl) (by kernel_rfl) (by kernel_rfl) (fun _ _ _ h => h) (Or.inl ⟨by kernel_rfl, fun w' hw' => by exact exec_index elI _ _ rfl g z.xs.length cap i rfl rfl hi⟩) ?_
      try go_frame
      have cg : w.drew.cell? ⟨g, i, none⟩ = some (.int .i64 X) := Hg3.out
      refine nextH (i := 12) rfl (by kernel_rfl) (by kernel_rfl) (fun K' hK => ?_)
      go_wp2_with fail
      refine hK.out _ _ ⟨hS, ?_⟩
      clear hK K' cg
      refine nextH (i := 13) rfl (by kernel_rfl) (by kernel_rfl) (fun K' hK => ?_)
      go_wp2_with fail
      refine (ztold X y b w.drew ((HB.out.cell 2).trans rfl)).mono ?_
      rintro en w2 ⟨rfl, hb⟩
      have hb2 : Below w.heap.size w w2 := (Below.refl _ w).drew.trans hb
      have hS2 : Kept (· = g) w w2 := Kept.of_below hb2
      refine hK.out _ _ ⟨hS2, ?_⟩
      clear hK K' hS hb
      have cg : w2.cell? ⟨g, i, none⟩ = some (.int .i64 X) := (hb2.cell (p := ⟨g, i, none⟩) hg2).trans Hg3.out
      have fg : w2.frozen? ⟨g, i, none⟩ = false := (hb2.frozen (p := ⟨g, i, none⟩) hg2).trans Hg4.out
      have HT := Lib.hid (zch_push (i := i) (x := xorI X y) Hz.out Hzs.out hb2)
      have HS3 := Lib.hid (hS2.setCell (p := ⟨g, i, none⟩) rfl (.int .i64 (xorI X y)))
      refine takeH hS2 (i := 14) (d := 25) (v := .pointer (some ⟨g, i, none⟩)) rfl rfl (by kernel_rfl) (by kernel_rfl) (by kernel_rfl) (fun _ _ _ h => h) (Or.inl ⟨by kernel_rfl, fun w' hw' => by exact exec_index elI _ _ rfl g z.xs.length cap i rfl rfl hi⟩) ?_
      try go_frame
      clear hb2 hS2
      refine nextH (i := 15) rfl (by kernel_rfl) (by kernel_rfl) (fun K' hK => ?_)
      go_wp2_with fail
      refine hK.out _ _ ⟨HS3.out, ?_⟩
      clear hK K' cg fg
      refine wpAnyH_done (by kernel_rfl) ?_ _
      go_wp2_with fail
      go_ret
      exact ⟨rfl, HT.out⟩

end Go.Proofs.Ytflcfhjpmajggaa
