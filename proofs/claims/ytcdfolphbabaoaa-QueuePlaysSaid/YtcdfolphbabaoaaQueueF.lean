/-
  Contracts of layer 9 (queue): what a function handed to Keep tells.
-/
import Derived.Test.YtcdfolphbabaoaaQueueE
import Derived.Recover
import Derived.Defers
import Derived.Deep.DeepMust
namespace Go.Proofs.Ytcdfolphbabaoaa
open Go.RowKit Go.Conc
set_option linter.unusedVariables false
set_option linter.unnecessarySimpa false
set_option linter.unusedSimpArgs false

/-- Has it no lowest bit? -/
def evB (z : Int) : Bool := bits .and .i64 z 1 == 0

set_option maxRecDepth 100000 in
set_option maxHeartbeats 2000000 in
theorem qeven (z : Int) (w : World) : Calls Try.prog 15 #[.int .i64 z] w fun e w' => e = .returned (.bool (evB z)) ∧ w = w' := by
  go_enter Try.func15, Try.ntmps15
  go_wp2
  go_ret
  exact ⟨rfl, rfl⟩

theorem qtells1 (p : Addr) (w : World) : CallsD Try.prog 31 #[.pointer (some p)] .returning w fun e u' w' => e = .returned (.tuple #[]) ∧ u' = .returning ∧ w' = w := by
  refine callsD_of_wpS Try.func31 rfl fun c₀ cs hu => ?_
  apply wpS_seq
  apply wpS_region
  simp [wpOpsS, go_sem, recoverD, hu, Try.ntmps31, Exit.thenS]
  refine wpS_cond (t := false) (by simp [Act.eval, Array.replicate]) ?_
  simp only [Bool.false_eq_true, if_false]
  refine wpS_of_wp (wp_skip ?_)
  cases c₀
  simp_all [bodyPostS, results, Try.results31]

set_option maxRecDepth 100000 in
set_option maxHeartbeats 2000000 in
theorem qtells_even (z : Int) (w : World) : Calls Try.prog 26 #[.func (.func 15) #[] #[], .int .i64 z] w fun e w' => e = .returned (.bool (evB z)) ∧ Below w.heap.size w w' := by
  have hmf : ∀ (fn : Fn) (first cap : Array Value) (w : World), (Instr.makeFunc fn first cap).run Try.prog w = .ok (.func fn first cap) w := fun _ _ _ _ => rfl
  go_enter_defers Try.func26, Try.ntmps26
  go_wp2
  refine leaves_cons (f := 31) (args := #[.pointer (some ⟨w.heap.size, 0, none⟩)]) (by simp) (by simp [go_sem]) ?_
  refine (qtells1 _ _).mono ?_
  rintro e u' w'' ⟨rfl, rfl, rfl⟩
  simp [Leaves, settle, results, Try.results26, go_sem]
  first | exact ⟨rfl, below_alloc w _⟩ | exact below_alloc w _

set_option maxRecDepth 100000 in
set_option maxHeartbeats 2000000 in
theorem qtells_all (z : Int) (w : World) : Calls Try.prog 26 #[.func (.func 22) #[] #[], .int .i64 z] w fun e w' => e = .returned (.bool (true)) ∧ Below w.heap.size w w' := by
  have hmf : ∀ (fn : Fn) (first cap : Array Value) (w : World), (Instr.makeFunc fn first cap).run Try.prog w = .ok (.func fn first cap) w := fun _ _ _ _ => rfl
  go_enter_defers Try.func26, Try.ntmps26
  go_wp2
  refine leaves_cons (f := 31) (args := #[.pointer (some ⟨w.heap.size, 0, none⟩)]) (by simp) (by simp [go_sem]) ?_
  refine (qtells1 _ _).mono ?_
  rintro e u' w'' ⟨rfl, rfl, rfl⟩
  simp [Leaves, settle, results, Try.results26, go_sem]
  first | exact ⟨rfl, below_alloc w _⟩ | exact below_alloc w _

/-- What stays of the first k things. -/
def keptK (f : Int → Bool) (qs : List (Nat × Int)) (k : Nat) : List (Nat × Int) := (qs.take k).filter (fun x => f x.2)
theorem keptK_yes (f : Int → Bool) (qs : List (Nat × Int)) (k : Nat) (h : k < qs.length) (hf : f (qs[k]).2 = true) : keptK f qs (k + 1) = keptK f qs k ++ [qs[k]] := by
  unfold keptK; rw [List.take_succ_eq_append_getElem h, List.filter_append]; simp [hf]
theorem keptK_no (f : Int → Bool) (qs : List (Nat × Int)) (k : Nat) (h : k < qs.length) (hf : f (qs[k]).2 = false) : keptK f qs (k + 1) = keptK f qs k := by
  unfold keptK; rw [List.take_succ_eq_append_getElem h, List.filter_append]; simp [hf]
theorem keptK_le (f : Int → Bool) (qs : List (Nat × Int)) (k : Nat) : (keptK f qs k).length ≤ qs.length := by
  unfold keptK
  exact Nat.le_trans (List.length_filter_le _ _) (by rw [List.length_take]; omega)
theorem keptK_all (f : Int → Bool) (qs : List (Nat × Int)) : keptK f qs qs.length = qs.filter (fun x => f x.2) := by unfold keptK; rw [List.take_length]
/-- The boxes of things. -/
def Bx (lo : Nat) (w : World) (qs : List (Nat × Int)) : Prop := ∀ x ∈ qs, lo ≤ x.1 ∧ Blk w x.1 3 #[encI x.2]
theorem Bx.kept {lo A C room : Nat} {w w' : World} {qs qs' : List (Nat × Int)} {T : TypeId} (h : Bx lo w qs) (hq : QAt T 3 encI lo w A C room qs') (k : Kept (· = C) w w') : Bx lo w' qs := fun x hx => ⟨(h x hx).1, hq.far k (h x hx).2⟩
theorem Bx.of {lo A C room : Nat} {w : World} {qs : List (Nat × Int)} {T : TypeId} (hq : QAt T 3 encI lo w A C room qs) : Bx lo w qs := hq.box
theorem Bx.sub {lo : Nat} {w : World} {qs qs' : List (Nat × Int)} (h : Bx lo w qs) (hs : ∀ x ∈ qs', x ∈ qs) : Bx lo w qs' := fun x hx => h x (hs x hx)
/-- A row that grows leaves another one. -/
theorem own_grown_other {b1 : Nat} {e : TypeId} {w a : World} {u v : Value} {n : Nat} {xs : List Value} (h : w.ownsRow b1 e 1 u n xs) (hg : w.grownBy a v.ownBlock) (hap : ∀ g, v.ownBlock = some g → u.ownBlock ≠ some g) : a.ownsRow b1 e 1 u n xs :=
  own_same h (fun g hu => hg.block g (own_lt h hu) (fun e => hap g e.symm hu))
set_option maxRecDepth 100000 in
set_option maxHeartbeats 4000000 in
theorem qkeep {lo A C room : Nat} {w : World} {qs : List (Nat × Int)} {fl : List (Nat × Int)} {G : FuncId} {f : Int → Bool} (ht : ∀ (z : Int) (w : World), Calls Try.prog 26 #[.func (.func G) #[] #[], .int .i64 z] w fun e w' => e = .returned (.bool (f z)) ∧ Below w.heap.size w w') (hf0 : keptK f qs qs.length = fl) (h : QAt 59 3 encI lo w A C room qs) : Calls Try.prog 14 #[.pointer (some ⟨A, 0, none⟩), .func (.func G) #[] #[]] w fun e w' => e = .returned (.int .i64 ((qs.length : Int) - (fl.length : Int))) ∧ QAt 59 3 encI lo w' A C room fl ∧ Kept (· = C) w w' := by
  have Hold := Lib.hid h.old
  have HQ0 := Lib.hid h
  have Ht := Lib.hid ht
  have hn4 : qs.length ≤ 4096 := Nat.le_trans h.len h.room
  have Hlen := Lib.hid h.len
  have HF := Lib.hid hf0
  clear h ht hf0
  go_enter Try.func14, Try.ntmps14
  go_wp2_with fail
  refine (qlist HQ0.out).mono ?_
  rintro e w1 ⟨v, rfl, hv1, hQ1, hK1⟩
  obtain ⟨av, cv, rfl⟩ := own_slice hv1
  have hvc : qs.length ≤ cv ∧ cv ≤ 9223372036854775807 := by have := own_cap hv1; unfold maxLen at this; omega
  obtain ⟨hv3, hv4⟩ := hvc
  have HV1 := Lib.hid hv1
  have HQ1 := Lib.hid hQ1
  have HK1 := Lib.hid hK1
  clear hv1 hQ1 hK1 HQ0
  go_upto_region 3 with fail
  go_wp2_with fail
  go_loopw [5, 15] (fun st i wr => ∃ k : Nat, k ≤ qs.length ∧ i = .int .i64 k ∧ wr.ownsRow w.heap.size 61 1 st (keptK f qs k).length (ptrs (keptK f qs k)) ∧ wr.ownsRow w.heap.size 61 1 (.slice av qs.length cv) qs.length (ptrs qs) ∧ (∀ g, st.ownBlock = some g → (Value.slice av qs.length cv).ownBlock ≠ some g) ∧ QAt 59 3 encI lo wr A C room qs ∧ Kept (· = C) w wr) (fun _ i _ => qs.length - (intOf i).toNat)
  case atStart => exact ⟨0, Nat.zero_le _, rfl, own_nil _ _ _, HV1.out, by simp [Value.ownBlock], HQ1.out, HK1.out⟩
  case round =>
    obtain ⟨k, hk, rfl, hst, hv, hap, hQ, hK⟩ := hrel
    obtain ⟨sa, sc, rfl⟩ := own_slice hst
    have HST := Lib.hid hst
    have HV := Lib.hid hv
    have HAP := Lib.hid hap
    have HQ := Lib.hid hQ
    have HK := Lib.hid hK
    clear hst hv hap hQ hK HV1 HQ1 HK1
    by_cases hlt : k < qs.length
    · obtain ⟨bv, rfl, _, _, hcv, _⟩ := own_at HV.out k hlt
      rw [ptrs_at qs k hlt] at hcv
      have hbx := blk_one (HQ.out.box qs[k] (List.getElem_mem hlt)).2
      have hyes := keptK_yes f qs k hlt
      have hno := keptK_no f qs k hlt
      have Hyes := Lib.hid hyes
      have Hno := Lib.hid hno
      clear hyes hno
      generalize qs[k] = x at *
      obtain ⟨xp, xz⟩ := x
      have hbx' : wr.cell? ⟨xp, 0, none⟩ = some (.int .i64 xz) := hbx
      clear hbx
      go_wp2_with fail
      refine (Ht.out xz _).mono ?_
      rintro e W2 ⟨rfl, hb2⟩
      have HST2 := Lib.hid (own_below HST.out hb2)
      have HV2 := Lib.hid (own_below HV.out hb2)
      have HQ2 := Lib.hid (HQ.out.below hb2)
      have HK2 := Lib.hid (kept_b HK.out hb2)
      clear hb2 HST HV HQ HK hcv hbx'
      cases hf : f xz with
      | true =>
        have E2 := Lib.hid (Hyes.out hf)
        clear hf Hyes Hno
        have HSTb := Lib.hid (own_below HST2.out (below_alloc W2 (Obj.cells #[.pointer (some ⟨xp, 0, none⟩)] 61)))
        have HVb := Lib.hid (own_below HV2.out (below_alloc W2 (Obj.cells #[.pointer (some ⟨xp, 0, none⟩)] 61)))
        have HQb := Lib.hid (HQ2.out.below (below_alloc W2 (Obj.cells #[.pointer (some ⟨xp, 0, none⟩)] 61)))
        have HKb := Lib.hid (kept_b HK2.out (below_alloc W2 (Obj.cells #[.pointer (some ⟨xp, 0, none⟩)] 61)))
        go_wp2_with (at_builtin; go_must (refine wpl_appendV elP rfl (.tmp 24) (.tmp 26) rfl w.heap.size _ _ _ rfl HSTb.out (some ⟨W2.heap.size, 0, none⟩) 1 1 [.pointer (some ⟨xp, 0, none⟩)] rfl rfl (fun e => by cases e) (src_one _ _ _) (by intro u hu; rcases List.mem_singleton.1 hu with rfl; rfl) (by have := keptK_le f qs k; omega) (by have := HKb.out.size; omega) ?_; intro v2 w4 hown hgr hv2; have HST4 := Lib.hid hown; have HV4 := Lib.hid (own_grown_other HVb.out hgr HAP.out); have HQ4 := Lib.hid (HQb.out.grown Hold.out hgr (own_ge HSTb.out)); have HK4 := Lib.hid (kept_grown HKb.out hgr (own_ge HSTb.out)); have HAP4 : Hid (∀ g, v2.ownBlock = some g → (Value.slice (some ⟨bv, 0, none⟩) qs.length cv).ownBlock ≠ some g) := Lib.hid (fun g hg => by rcases hv2 with h | h; (rw [h] at hg; exact HAP.out g hg); (rw [h] at hg; intro e2; have := own_lt HV2.out e2; injection hg with hg; simp at hg; omega)); clear hown hgr hv2; go_frame))
        go_roundw
        case rel => exact ⟨k + 1, by omega, by go_num, by rw [E2.out, ptrs_append, List.length_append]; exact HST4.out, HV4.out, HAP4.out, HQ4.out, HK4.out⟩
        case measure => simp [intOf]; omega
      | false =>
        have E2 := Lib.hid (Hno.out hf)
        clear hf Hyes Hno
        go_wp2_with fail
        go_roundw
        case rel => exact ⟨k + 1, by omega, by go_num, by rw [E2.out]; exact HST2.out, HV2.out, HAP.out, HQ2.out, HK2.out⟩
        case measure => simp [intOf]; omega
    · obtain rfl : k = qs.length := by omega
      rw [HF.out] at HST
      rw [HF.out]
      have hfl : fl.length ≤ qs.length := by have := keptK_le f qs qs.length; rwa [HF.out] at this
      have Hsub := Lib.hid (show ∀ x ∈ fl, x ∈ qs from fun x hx => by rw [← HF.out, keptK_all] at hx; exact (List.mem_filter.1 hx).1)
      have hsc : fl.length ≤ sc ∧ sc ≤ 9223372036854775807 := by have := own_cap HST.out; unfold maxLen at this; omega
      obtain ⟨hs3, hs4⟩ := hsc
      have HBX := Lib.hid (Bx.of HQ.out)
      clear HV HAP
      go_wp2_with fail
      refine (qlenI HQ.out).mono ?_
      rintro e w2 ⟨rfl, rfl⟩
      go_wp2_with fail
      go_loopw [31] (fun i wr2 => ∃ k : Nat, k ≤ qs.length ∧ i = .int .i64 k ∧ wr2.ownsRow w.heap.size 61 1 (.slice sa fl.length sc) fl.length (ptrs fl) ∧ Bx lo wr2 qs ∧ QAt 59 3 encI lo wr2 A C room (qs.drop k) ∧ Kept (· = C) w wr2) (fun i _ => qs.length - (intOf i).toNat)
      case atStart => exact ⟨0, Nat.zero_le _, rfl, HST.out, HBX.out, HQ.out, HK.out⟩
      case round =>
        obtain ⟨k, hk2, rfl, hst, hbx, hQ, hK⟩ := hrel
        have HST2 := Lib.hid hst
        have HBX2 := Lib.hid hbx
        have HK2 := Lib.hid hK
        clear hst hbx hK HST HBX HQ HK
        by_cases hlt2 : k < qs.length
        · rw [List.drop_eq_getElem_cons hlt2] at hQ
          have HQ2 := Lib.hid hQ
          clear hQ
          generalize qs[k] = x at *
          go_wp2_with fail
          refine (qreceive HQ2.out).mono ?_
          rintro e W2 ⟨rfl, hQ3, hk3⟩
          have HST3 := Lib.hid (HQ2.out.own hk3 HST2.out)
          have HBX3 := Lib.hid (HBX2.out.kept HQ2.out hk3)
          have HK3 := Lib.hid (kept_then HK2.out hk3)
          have HQ3 := Lib.hid hQ3
          clear hQ3 hk3
          go_wp2_with fail
          go_roundw
          case rel => exact ⟨k + 1, by omega, by go_num, HST3.out, HBX3.out, HQ3.out, HK3.out⟩
          case measure => simp [intOf]; omega
        · obtain rfl : k = qs.length := by omega
          rw [List.drop_length] at hQ
          have HQ2 := Lib.hid hQ
          clear hQ
          go_wp2_with fail
          go_loopw [38] (fun i wr3 => ∃ k : Nat, k ≤ fl.length ∧ i = .int .i64 k ∧ wr3.ownsRow w.heap.size 61 1 (.slice sa fl.length sc) fl.length (ptrs fl) ∧ Bx lo wr3 qs ∧ QAt 59 3 encI lo wr3 A C room (fl.take k) ∧ Kept (· = C) w wr3) (fun i _ => fl.length - (intOf i).toNat)
          case atStart => exact ⟨0, Nat.zero_le _, rfl, HST2.out, HBX2.out, HQ2.out, HK2.out⟩
          case round =>
            obtain ⟨k, hk3, rfl, hst, hbx, hQ, hK⟩ := hrel
            have HST3 := Lib.hid hst
            have HBX3 := Lib.hid hbx
            have HK3 := Lib.hid hK
            have HQ3 := Lib.hid hQ
            clear hst hbx hK hQ HST2 HBX2 HQ2 HK2
            by_cases hlt3 : k < fl.length
            · obtain ⟨bs, rfl, _, _, hcs, _⟩ := own_at HST3.out k hlt3
              rw [ptrs_at fl k hlt3] at hcs
              have hb := HBX3.out fl[k] (Hsub.out _ (List.getElem_mem hlt3))
              have E3 := Lib.hid (List.take_succ_eq_append_getElem hlt3)
              have hl3 : (fl.take k).length < room := by have := Hlen.out; rw [List.length_take]; omega
              generalize fl[k] = x at *
              have HB := Lib.hid hb
              have Hl3 := Lib.hid hl3
              clear hb hl3
              go_wp2_with fail
              refine (qsend HQ3.out HB.out Hl3.out).mono ?_
              rintro e W4 ⟨rfl, hQ4, hk4⟩
              have HST4 := Lib.hid (HQ3.out.own hk4 HST3.out)
              have HBX4 := Lib.hid (HBX3.out.kept HQ3.out hk4)
              have HK4 := Lib.hid (kept_then HK3.out hk4)
              rw [← E3.out] at hQ4
              have HQ4 := Lib.hid hQ4
              clear hQ4 hk4 hcs
              go_wp2_with fail
              go_roundw
              case rel => exact ⟨k + 1, by omega, by go_num, HST4.out, HBX4.out, HQ4.out, HK4.out⟩
              case measure => simp [intOf]; omega
            · obtain rfl : k = fl.length := by omega
              go_wp2_with fail
              go_ret
              exact ⟨rfl, by have := HQ3.out; rwa [List.take_length] at this, HK3.out⟩

end Go.Proofs.Ytcdfolphbabaoaa
