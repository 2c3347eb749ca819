import Derived.Test.YtajkajgnjcnolaaMp07
namespace Go.Proofs.Ytajkajgnjcnolaa
open Go.RowKit
set_option linter.unusedVariables false
set_option linter.unnecessarySimpa false
set_option linter.unusedSimpArgs false
def dhB (n : Nat) (z : Int) : Bool := decide (0 ≤ z) && decide (z < (n : Int))
theorem dhB_in {n : Nat} {z : Int} (h : dhB n z = true) : 0 ≤ z ∧ z < (n : Int) := by unfold dhB at h; simpa using h
def cmdE (d : DvR) (n : Nat) (z : Int) : Int := if d.down = true then 34 else if dhB n z = true then 0 else 13
def zsat (zs : List ZsR) (z : Int) : ZsR := zs.getD z.toNat (zs0 1)
theorem DvAt.slice {lo D : Nat} {w : World} {vz : Value} {d : DvR} {l : List ZcR} (h : DvAt lo w D vz d l) : ∃ a cap, vz = .slice a l.length cap ∧ l.length ≤ cap ∧ cap ≤ 9223372036854775807 := by
  obtain ⟨a, cap, rfl⟩ := own_slice h.own
  obtain ⟨_, c1, c2⟩ := own_cap h.own
  unfold maxLen at c2
  exact ⟨a, cap, rfl, c1, c2⟩
theorem DvAt.cnt {lo D : Nat} {w : World} {vz : Value} {d : DvR} {l : List ZcR} (h : DvAt lo w D vz d l) : DvAt lo (w.setCell ⟨D, 3, none⟩ (.int .i64 (d.count + 1))) D vz { d with count := d.count + 1 } l ∧ Kept (DvF D vz l) w (w.setCell ⟨D, 3, none⟩ (.int .i64 (d.count + 1))) := by
  have k : Kept (· = D) w (w.setCell ⟨D, 3, none⟩ (.int .i64 (d.count + 1))) := (Kept.refl (· = D) w).setCell (p := ⟨D, 3, none⟩) rfl _
  refine ⟨⟨by have h2 := h.blk.set 3 (.int .i64 (d.count + 1)); exact h2, own_kept h.own k (fun g hg e => ?_), fun j c hc => (h.each j c hc).kept k (fun m hm e => ?_), h.apart, h.ok, h.size, h.le⟩, k.mono (fun j _ hj => .inl hj)⟩
  · subst e
    exact own_unlike h.own h.blk (by decide) hg.symm
  · subst e
    rcases hm with e | e
    · exact Blk.unlike h.blk (h.each j c hc).blk (by decide) e
    · exact own_unlike (h.each j c hc).own h.blk (by decide) e.symm
theorem DvTo.of_cnt {lo D : Nat} {w : World} {vz : Value} {l : List ZcR} {w1 w' : World} {d' : DvR} {zs' : List ZsR} (hk : Kept (DvF D vz l) w w1) (h : DvTo lo w1 D vz l d' zs' w') : DvTo lo w D vz l d' zs' w' := DvTo.step hk (fun _ h => .inl h) h
set_option maxRecDepth 100000 in
set_option maxHeartbeats 2000000 in
theorem dwi (v most : Int) (w : World) : Calls Try.prog 71 #[.int .i64 v, .int .i64 most] w fun e w' => e = .returned (.bool (decide (1 ≤ v) && decide (v ≤ most))) ∧ w = w' := by
  by_cases h : 1 ≤ v
  · have hd : decide (1 ≤ v) = true := decide_eq_true h
    go_enter Try.func71, Try.ntmps71
    go_wp2
    go_ret
    exact ⟨ret_bool (by first | rfl | (rw [hd]; rfl) | simp_all), rfl⟩
  · have hd : decide (1 ≤ v) = false := decide_eq_false h
    go_enter Try.func71, Try.ntmps71
    go_wp2
    go_ret
    exact ⟨ret_bool (by first | rfl | (rw [hd]; rfl) | simp_all), rfl⟩
set_option maxRecDepth 100000 in
set_option maxHeartbeats 2000000 in
theorem ddown {lo D : Nat} {w : World} {vz : Value} {d : DvR} {l : List ZcR} (h : DvAt lo w D vz d l) : Calls Try.prog 22 #[.pointer (some ⟨D, 0, none⟩)] w fun e w' => e = .returned (.bool d.down) ∧ w = w' := by
  have c : w.cell? ⟨D, 4, none⟩ = some (.bool d.down) := (h.blk.cell 4).trans rfl
  clear h
  go_enter Try.func22, Try.ntmps22
  go_wp2
  go_ret
  exact ⟨rfl, rfl⟩
set_option maxRecDepth 100000 in
set_option maxHeartbeats 2000000 in
theorem dcount {lo D : Nat} {w : World} {vz : Value} {d : DvR} {l : List ZcR} (h : DvAt lo w D vz d l) : Calls Try.prog 21 #[.pointer (some ⟨D, 0, none⟩)] w fun e w' => e = .returned (.int .i64 d.count) ∧ w = w' := by
  have c : w.cell? ⟨D, 3, none⟩ = some (.int .i64 d.count) := (h.blk.cell 3).trans rfl
  clear h
  go_enter Try.func21, Try.ntmps21
  go_wp2
  go_ret
  exact ⟨rfl, rfl⟩
set_option maxRecDepth 100000 in
set_option maxHeartbeats 2000000 in
theorem dzones {lo D : Nat} {w : World} {vz : Value} {d : DvR} {l : List ZcR} (h : DvAt lo w D vz d l) : Calls Try.prog 41 #[.pointer (some ⟨D, 0, none⟩)] w fun e w' => e = .returned (.int .i64 (l.length : Nat)) ∧ w = w' := by
  obtain ⟨a, cap, rfl, c1, c2⟩ := h.slice
  have c : w.cell? ⟨D, 0, none⟩ = some (.slice a l.length cap) := (h.blk.cell 0).trans rfl
  clear h
  go_enter Try.func41, Try.ntmps41
  go_wp2
  go_ret
  exact ⟨rfl, rfl⟩
set_option maxRecDepth 100000 in
set_option maxHeartbeats 2000000 in
theorem dhol {lo D : Nat} {w : World} {vz : Value} {d : DvR} {l : List ZcR} (z : Int) (h : DvAt lo w D vz d l) : Calls Try.prog 42 #[.pointer (some ⟨D, 0, none⟩), .int .i64 z] w fun e w' => e = .returned (.bool (dhB l.length z)) ∧ w = w' := by
  obtain ⟨a, cap, rfl, c1, c2⟩ := h.slice
  have c : w.cell? ⟨D, 0, none⟩ = some (.slice a l.length cap) := (h.blk.cell 0).trans rfl
  clear h
  by_cases h0 : 0 ≤ z
  · have hd : decide (0 ≤ z) = true := decide_eq_true h0
    go_enter Try.func42, Try.ntmps42
    go_wp2_with fail
    go_ret
    exact ⟨ret_bool (by unfold dhB; first | rfl | (rw [hd]; rfl) | simp_all), rfl⟩
  · have hd : decide (0 ≤ z) = false := decide_eq_false h0
    go_enter Try.func42, Try.ntmps42
    go_wp2_with fail
    go_ret
    exact ⟨ret_bool (by unfold dhB; first | rfl | (rw [hd]; rfl) | simp_all), rfl⟩
set_option maxRecDepth 100000 in
set_option maxHeartbeats 2000000 in
theorem dlen_no {lo D : Nat} {w : World} {vz : Value} {d : DvR} {l : List ZcR} (z : Int)  (h : DvAt lo w D vz d l) (hh : dhB l.length z = false) : Calls Try.prog 13 #[.pointer (some ⟨D, 0, none⟩), .int .i64 z] w fun e w' => e = .returned (.int .i64 0) ∧ w = w' := by
  have Hh := Lib.hid hh
  have H := Lib.hid h
  clear h hh
  go_enter Try.func13, Try.ntmps13
  go_wp2_with fail
  refine (dhol z H.out).mono ?_
  rintro e w1 ⟨rfl, rfl⟩
  rw [Hh.out]
  go_wp2_with fail
  go_ret
  exact ⟨rfl, rfl⟩
set_option maxRecDepth 100000 in
set_option maxHeartbeats 2000000 in
theorem dlen_ok {lo D : Nat} {w : World} {vz : Value} {d : DvR} {l : List ZcR} {k : Nat} {c : ZcR}  (h : DvAt lo w D vz d l) (hc : l[k]? = some c) : Calls Try.prog 13 #[.pointer (some ⟨D, 0, none⟩), .int .i64 (k : Nat)] w fun e w' => e = .returned (.int .i64 (c.z.ss.length : Nat)) ∧ w = w' := by
  have hk : k < l.length := (List.getElem?_eq_some_iff.1 hc).1
  have hh : dhB l.length (k : Int) = true := by unfold dhB; simp; omega
  obtain ⟨g, cap, rfl, q1, q2, hg⟩ := h.ptr hc
  unfold maxLen at q2
  have c0 : w.cell? ⟨D, 0, none⟩ = some (.slice (some ⟨g, 0, none⟩) l.length cap) := (h.blk.cell 0).trans rfl
  have Hh := Lib.hid hh
  have H := Lib.hid h
  have Hc := Lib.hid hc
  clear h hh hc
  go_enter Try.func13, Try.ntmps13
  go_wp2_with fail
  refine (dhol (k : Int) H.out).mono ?_
  rintro e w1 ⟨rfl, rfl⟩
  rw [Hh.out]
  go_wp2_with fail
  refine (zlenF (H.out.each k c Hc.out)).mono ?_
  rintro e w1 ⟨rfl, rfl⟩
  go_wp2_with fail
  go_ret
  exact ⟨rfl, rfl⟩
theorem faS_size (z : ZsR) (st : Int) : (faS z st).size = z.size := by unfold faS; split <;> rfl
theorem faS_ok {z : ZsR} (h : ZsOk z) (st : Int) : ZsOk (faS z st) := by
  unfold faS
  by_cases e : st = 4 ∨ st = 3 ∧ z.failed ≠ 4
  · rw [if_pos e]
    exact ⟨h.size, h.len, h.safe, .inr (show st = 3 ∨ st = 4 by omega), h.w64, h.lt⟩
  · rw [if_neg e]; exact h
theorem rsS_size (z : ZsR) : (rsS z).size = z.size := by unfold rsS; split <;> rfl
theorem rsS_ok {z : ZsR} (h : ZsOk z) : ZsOk (rsS z) := by
  unfold rsS
  split
  · exact zs0_ok h.size
  · exact h
theorem fnS_size (z : ZsR) : (fnS z).size = z.size := by unfold fnS; split <;> rfl
theorem fnS_ok {z : ZsR} (h : ZsOk z) : ZsOk (fnS z) := by
  unfold fnS
  split
  · exact ⟨h.size, h.len, h.safe, h.failed, h.w64, h.lt⟩
  · exact h
theorem flS_ok {z : ZsR} (h : ZsOk z) : ZsOk (flS z) := ⟨h.size, h.len, ⟨by show (0 : Int) ≤ z.ss.length; omega, Int.le_refl _⟩, h.failed, h.w64, h.lt⟩
theorem apSS_size (z : ZsR) (s : List Nat) : (apSS z s).size = z.size := by unfold apSS; split <;> rfl
theorem stS_no {z : ZsR} (h : z.failed = 0) : stS z = if z.fin = true ∨ (z.ss.length : Int) = z.size then 2 else if (z.ss.length : Int) = 0 then 0 else 1 := by
  unfold stS; rw [if_neg (by rw [h]; decide)]
theorem stS_yes {z : ZsR} (h : z.failed ≠ 0) : stS z = z.failed := by unfold stS; rw [if_pos h]
theorem refS_zero {z : ZsR} (hok : ZsOk z) : refS z = 0 ↔ z.failed = 0 := by
  unfold refS
  rcases hok.failed with h | h | h <;> rw [h] <;> simp
theorem apES_zero {z : ZsR} (hok : ZsOk z) (h : apES z = 0) : z.failed = 0 ∧ z.fin = false ∧ (z.ss.length : Int) ≠ z.size := by
  unfold apES at h
  by_cases h1 : refS z = 0
  · rw [if_neg (fun e => e h1)] at h
    have hf := (refS_zero hok).1 h1
    have hs : stS z ≠ 2 := fun e => by rw [if_pos e] at h; exact absurd h (by decide)
    rw [stS_no hf] at hs
    have hn : ¬ (z.fin = true ∨ (z.ss.length : Int) = z.size) := fun e => hs (by rw [if_pos e])
    exact ⟨hf, by cases hb : z.fin with | false => rfl | true => exact absurd (.inl hb) hn, fun e => hn (.inr e)⟩
  · rw [if_pos h1] at h; exact absurd h h1
theorem apSS_ok {z : ZsR} (hok : ZsOk z) {s : List Nat} (hs : s.length = 64) (hlt : ∀ c ∈ s, c < 256) : ZsOk (apSS z s) := by
  unfold apSS
  by_cases h : apES z = 0
  · rw [if_pos h]
    obtain ⟨h1, h2, h3⟩ := apES_zero hok h
    have h4 := hok.len
    have h5 := hok.safe
    refine ⟨hok.size, ?_, ?_, hok.failed, fun t ht => ?_, fun t ht => ?_⟩
    · show ((z.ss ++ [s]).length : Int) ≤ z.size
      rw [List.length_append, List.length_singleton]; omega
    · show 0 ≤ z.safe ∧ z.safe ≤ ((z.ss ++ [s]).length : Int)
      rw [List.length_append, List.length_singleton]; omega
    · rcases List.mem_append.1 ht with h | h
      · exact hok.w64 t h
      · rw [List.mem_singleton.1 h]; exact hs
    · rcases List.mem_append.1 ht with h | h
      · exact hok.lt t h
      · rw [List.mem_singleton.1 h]; exact hlt
  · rw [if_neg h]; exact hok
theorem crS_ok {z : ZsR} (hok : ZsOk z) (k : Int) : ZsOk (crS z k) := by
  obtain ⟨n1, n2, n3⟩ := keepS_bd hok k
  have h3 := hok.len
  have hl : (z.ss.take (keepS z k)).length = keepS z k := by simp; omega
  refine ⟨hok.size, ?_, ?_, hok.failed, fun t ht => hok.w64 t (List.mem_of_mem_take ht), fun t ht => hok.lt t (List.mem_of_mem_take ht)⟩
  · show ((z.ss.take (keepS z k)).length : Int) ≤ z.size
    rw [hl]; omega
  · show 0 ≤ ((keepS z k : Nat) : Int) ∧ ((keepS z k : Nat) : Int) ≤ ((z.ss.take (keepS z k)).length : Int)
    rw [hl]; omega
set_option maxRecDepth 100000 in
set_option maxHeartbeats 2000000 in
theorem dfa_no {lo D : Nat} {w : World} {vz : Value} {d : DvR} {l : List ZcR} (z : Int) (st : Int) (h : DvAt lo w D vz d l) (hh : dhB l.length z = false) : Calls Try.prog 88 #[.pointer (some ⟨D, 0, none⟩), .int .i64 z, .int .i64 st] w fun e w' => e = .returned (.int .i64 13) ∧ w = w' := by
  have Hh := Lib.hid hh
  have H := Lib.hid h
  clear h hh
  go_enter Try.func88, Try.ntmps88
  go_wp2_with fail
  refine (dhol z H.out).mono ?_
  rintro e w1 ⟨rfl, rfl⟩
  rw [Hh.out]
  go_wp2_with fail
  go_ret
  exact ⟨rfl, rfl⟩
set_option maxRecDepth 100000 in
set_option maxHeartbeats 2000000 in
theorem dfa_ok {lo D : Nat} {w : World} {vz : Value} {d : DvR} {l : List ZcR} {k : Nat} {c : ZcR} (st : Int) (h : DvAt lo w D vz d l) (hc : l[k]? = some c) : Calls Try.prog 88 #[.pointer (some ⟨D, 0, none⟩), .int .i64 (k : Nat), .int .i64 st] w fun e w' => e = .returned (.int .i64 0) ∧ DvTo lo w D vz l d ((l.map ZcR.z).set k (faS c.z st)) w' := by
  have hk : k < l.length := (List.getElem?_eq_some_iff.1 hc).1
  have hh : dhB l.length (k : Int) = true := by unfold dhB; simp; omega
  obtain ⟨g, cap, rfl, q1, q2, hg⟩ := h.ptr hc
  unfold maxLen at q2
  have c0 : w.cell? ⟨D, 0, none⟩ = some (.slice (some ⟨g, 0, none⟩) l.length cap) := (h.blk.cell 0).trans rfl
  have Hh := Lib.hid hh
  have H := Lib.hid h
  have Hc := Lib.hid hc
  clear h hh hc
  go_enter Try.func88, Try.ntmps88
  go_wp2_with fail
  refine (dhol (k : Int) H.out).mono ?_
  rintro e w1 ⟨rfl, rfl⟩
  rw [Hh.out]
  go_wp2_with fail
  refine (zfaF st (H.out.each k c Hc.out)).mono ?_
  rintro e w1 ⟨rfl, hT⟩
  have HT := Lib.hid (H.out.zone Hc.out hT (faS_ok (H.out.ok k c Hc.out) st) ((faS_size _ _).trans (H.out.size k c Hc.out)))
  clear hT
  go_wp2_with fail
  go_ret
  exact ⟨rfl, HT.out⟩
set_option maxRecDepth 100000 in
set_option maxHeartbeats 2000000 in
theorem dcm_down {lo D : Nat} {w : World} {vz : Value} {d : DvR} {l : List ZcR} (z : Int) (h : DvAt lo w D vz d l) (hd : d.down = true) : Calls Try.prog 73 #[.pointer (some ⟨D, 0, none⟩), .int .i64 z] w fun e w' => e = .returned (.tuple #[.pointer none, .int .i64 34]) ∧ w = w' := by
  have c4 : w.cell? ⟨D, 4, none⟩ = some (.bool true) := (h.blk.cell 4).trans (congrArg (fun t => some (Value.bool t)) hd)
  clear h hd
  go_enter Try.func73, Try.ntmps73
  go_wp2_with fail
  go_ret2
  exact ⟨rfl, rfl⟩
set_option maxRecDepth 100000 in
set_option maxHeartbeats 2000000 in
theorem dcm_no {lo D : Nat} {w : World} {vz : Value} {d : DvR} {l : List ZcR} (z : Int) (h : DvAt lo w D vz d l) (hd : d.down = false) (hh : dhB l.length z = false) : Calls Try.prog 73 #[.pointer (some ⟨D, 0, none⟩), .int .i64 z] w fun e w' => e = .returned (.tuple #[.pointer none, .int .i64 13]) ∧ w = w' := by
  have c4 : w.cell? ⟨D, 4, none⟩ = some (.bool false) := (h.blk.cell 4).trans (congrArg (fun t => some (Value.bool t)) hd)
  have H := Lib.hid h
  have Hh := Lib.hid hh
  clear h hd hh
  go_enter Try.func73, Try.ntmps73
  go_wp2_with fail
  refine (dhol z H.out).mono ?_
  rintro e w1 ⟨rfl, rfl⟩
  rw [Hh.out]
  go_wp2_with fail
  go_ret2
  exact ⟨rfl, rfl⟩
set_option maxRecDepth 100000 in
set_option maxHeartbeats 2000000 in
theorem dcm_ok {lo D : Nat} {w : World} {vz : Value} {d : DvR} {l : List ZcR} {k : Nat} {c : ZcR} (h : DvAt lo w D vz d l) (hd : d.down = false) (hc : l[k]? = some c) (hn : 0 ≤ d.count ∧ d.count ≤ 1000000) : Calls Try.prog 73 #[.pointer (some ⟨D, 0, none⟩), .int .i64 (k : Nat)] w fun e w' => e = .returned (.tuple #[.pointer (some ⟨c.A, 0, none⟩), .int .i64 0]) ∧ w' = w.setCell ⟨D, 3, none⟩ (.int .i64 (d.count + 1)) := by
  have hk : k < l.length := (List.getElem?_eq_some_iff.1 hc).1
  have hh : dhB l.length (k : Int) = true := by unfold dhB; simp; omega
  obtain ⟨n1, n2⟩ := hn
  have c4 : w.cell? ⟨D, 4, none⟩ = some (.bool false) := (h.blk.cell 4).trans (congrArg (fun t => some (Value.bool t)) hd)
  have c3 : w.cell? ⟨D, 3, none⟩ = some (.int .i64 d.count) := (h.blk.cell 3).trans rfl
  have f3 := h.blk.frozen 3
  have HC := Lib.hid h.cnt.1
  have H := Lib.hid h
  have Hh := Lib.hid hh
  have Hc := Lib.hid hc
  have Hk := Lib.hid hk
  clear h hd hc hh
  go_enter Try.func73, Try.ntmps73
  go_wp2_with fail
  refine (dhol (k : Int) H.out).mono ?_
  rintro e w1 ⟨rfl, rfl⟩
  rw [Hh.out]
  go_upto_region 6 with fail
  clear c3 c4 f3
  generalize hw2 : w.setCell ⟨D, 3, none⟩ (.int .i64 (d.count + 1)) = w2 at *
  obtain ⟨g, cap, rfl, q1, q2, hg⟩ := HC.out.ptr Hc.out
  unfold maxLen at q2
  have c0 : w2.cell? ⟨D, 0, none⟩ = some (.slice (some ⟨g, 0, none⟩) l.length cap) := (HC.out.blk.cell 0).trans rfl
  have Hw2 := Lib.hid hw2
  clear hw2
  go_wp2_with fail
  go_ret2
  exact ⟨rfl, Hw2.out.symm⟩
set_option maxRecDepth 100000 in
set_option maxHeartbeats 2000000 in
theorem drs_down {lo D : Nat} {w : World} {vz : Value} {d : DvR} {l : List ZcR} (z : Int) (h : DvAt lo w D vz d l) (hd : d.down = true) : Calls Try.prog 62 #[.pointer (some ⟨D, 0, none⟩), .int .i64 z] w fun e w' => e = .returned (.int .i64 34) ∧ w = w' := by
  go_enter Try.func62, Try.ntmps62
  go_wp2_with fail
  refine (dcm_down z h hd).mono ?_
  rintro e w1 ⟨rfl, rfl⟩
  go_wp2_with fail
  go_ret
  exact ⟨rfl, rfl⟩
set_option maxRecDepth 100000 in
set_option maxHeartbeats 2000000 in
theorem drs_no {lo D : Nat} {w : World} {vz : Value} {d : DvR} {l : List ZcR} (z : Int) (h : DvAt lo w D vz d l) (hd : d.down = false) (hh : dhB l.length z = false) : Calls Try.prog 62 #[.pointer (some ⟨D, 0, none⟩), .int .i64 z] w fun e w' => e = .returned (.int .i64 13) ∧ w = w' := by
  go_enter Try.func62, Try.ntmps62
  go_wp2_with fail
  refine (dcm_no z h hd hh).mono ?_
  rintro e w1 ⟨rfl, rfl⟩
  go_wp2_with fail
  go_ret
  exact ⟨rfl, rfl⟩
set_option maxRecDepth 100000 in
set_option maxHeartbeats 2000000 in
theorem drs_ok {lo D : Nat} {w : World} {vz : Value} {d : DvR} {l : List ZcR} {k : Nat} {c : ZcR} (h : DvAt lo w D vz d l) (hd : d.down = false) (hc : l[k]? = some c) (hn : 0 ≤ d.count ∧ d.count ≤ 1000000) : Calls Try.prog 62 #[.pointer (some ⟨D, 0, none⟩), .int .i64 (k : Nat)] w fun e w' => e = .returned (.int .i64 (refS c.z)) ∧ DvTo lo w D vz l { d with count := d.count + 1 } ((l.map ZcR.z).set k (rsS c.z)) w' := by
  have H := Lib.hid h.cnt
  have H0 := Lib.hid h
  have Hc := Lib.hid hc
  clear h hc
  go_enter Try.func62, Try.ntmps62
  go_wp2_with fail
  refine (dcm_ok H0.out hd Hc.out hn).mono ?_
  rintro e w1 ⟨rfl, rfl⟩
  clear hd
  generalize w.setCell ⟨D, 3, none⟩ (.int .i64 (d.count + 1)) = w1 at *
  go_wp2_with fail
  refine (zrsF (H.out.1.each k c Hc.out)).mono ?_
  rintro e w2 ⟨rfl, hT⟩
  have HT := Lib.hid (DvTo.of_cnt H.out.2 (H.out.1.zone Hc.out hT (rsS_ok (H.out.1.ok k c Hc.out)) ((rsS_size _).trans (H.out.1.size k c Hc.out))))
  clear hT
  go_wp2_with fail
  go_ret
  exact ⟨rfl, HT.out⟩
set_option maxRecDepth 100000 in
set_option maxHeartbeats 2000000 in
theorem dfn_down {lo D : Nat} {w : World} {vz : Value} {d : DvR} {l : List ZcR} (z : Int) (h : DvAt lo w D vz d l) (hd : d.down = true) : Calls Try.prog 63 #[.pointer (some ⟨D, 0, none⟩), .int .i64 z] w fun e w' => e = .returned (.int .i64 34) ∧ w = w' := by
  go_enter Try.func63, Try.ntmps63
  go_wp2_with fail
  refine (dcm_down z h hd).mono ?_
  rintro e w1 ⟨rfl, rfl⟩
  go_wp2_with fail
  go_ret
  exact ⟨rfl, rfl⟩
set_option maxRecDepth 100000 in
set_option maxHeartbeats 2000000 in
theorem dfn_no {lo D : Nat} {w : World} {vz : Value} {d : DvR} {l : List ZcR} (z : Int) (h : DvAt lo w D vz d l) (hd : d.down = false) (hh : dhB l.length z = false) : Calls Try.prog 63 #[.pointer (some ⟨D, 0, none⟩), .int .i64 z] w fun e w' => e = .returned (.int .i64 13) ∧ w = w' := by
  go_enter Try.func63, Try.ntmps63
  go_wp2_with fail
  refine (dcm_no z h hd hh).mono ?_
  rintro e w1 ⟨rfl, rfl⟩
  go_wp2_with fail
  go_ret
  exact ⟨rfl, rfl⟩
set_option maxRecDepth 100000 in
set_option maxHeartbeats 2000000 in
theorem dfn_ok {lo D : Nat} {w : World} {vz : Value} {d : DvR} {l : List ZcR} {k : Nat} {c : ZcR} (h : DvAt lo w D vz d l) (hd : d.down = false) (hc : l[k]? = some c) (hn : 0 ≤ d.count ∧ d.count ≤ 1000000) : Calls Try.prog 63 #[.pointer (some ⟨D, 0, none⟩), .int .i64 (k : Nat)] w fun e w' => e = .returned (.int .i64 (refS c.z)) ∧ DvTo lo w D vz l { d with count := d.count + 1 } ((l.map ZcR.z).set k (fnS c.z)) w' := by
  have H := Lib.hid h.cnt
  have H0 := Lib.hid h
  have Hc := Lib.hid hc
  clear h hc
  go_enter Try.func63, Try.ntmps63
  go_wp2_with fail
  refine (dcm_ok H0.out hd Hc.out hn).mono ?_
  rintro e w1 ⟨rfl, rfl⟩
  clear hd
  generalize w.setCell ⟨D, 3, none⟩ (.int .i64 (d.count + 1)) = w1 at *
  go_wp2_with fail
  refine (zfnF (H.out.1.each k c Hc.out)).mono ?_
  rintro e w2 ⟨rfl, hT⟩
  have HT := Lib.hid (DvTo.of_cnt H.out.2 (H.out.1.zone Hc.out hT (fnS_ok (H.out.1.ok k c Hc.out)) ((fnS_size _).trans (H.out.1.size k c Hc.out))))
  clear hT
  go_wp2_with fail
  go_ret
  exact ⟨rfl, HT.out⟩
def opD (zs : List ZsR) : Nat := zs.countP (fun z => decide (stS z = 1))
theorem opD_step {zs : List ZsR} {j : Nat} {z : ZsR} (hz : zs[j]? = some z) : opD (zs.take (j + 1)) = opD (zs.take j) + if stS z = 1 then 1 else 0 := by
  unfold opD
  rw [List.take_add_one, hz, List.countP_append]
  simp [List.countP_cons]
theorem opD_le (zs : List ZsR) : opD zs ≤ zs.length := List.countP_le_length
set_option maxRecDepth 100000 in
set_option maxHeartbeats 4000000 in
theorem dop {lo D : Nat} {w : World} {vz : Value} {d : DvR} {l : List ZcR} (h : DvAt lo w D vz d l) (hl : l.length ≤ 1000) : Calls Try.prog 74 #[.pointer (some ⟨D, 0, none⟩)] w fun e w' => e = .returned (.bool (decide ((opD (l.map ZcR.z) : Int) < d.opn))) ∧ Below w.heap.size w w' := by
  obtain ⟨a, cap, rfl, q1, q2⟩ := h.slice
  have c0 : w.cell? ⟨D, 0, none⟩ = some (.slice a l.length cap) := (h.blk.cell 0).trans rfl
  have H := Lib.hid h
  clear h
  go_enter Try.func74, Try.ntmps74
  go_wp2_with fail
  clear c0
  go_loopw [3, 11] (fun n i wr => ∃ j : Nat, j ≤ l.length ∧ i = .int .i64 j ∧ n = .int .i64 (opD ((l.map ZcR.z).take j) : Nat) ∧ Below w.heap.size w wr) (fun _ i _ => l.length - (intOf i).toNat)
  case atStart => exact ⟨0, Nat.zero_le _, rfl, rfl, Below.refl _ _⟩
  case round =>
    rename_i v0 _
    obtain ⟨j, hj, rfl, rfl, hB⟩ := hrel
    have Hr := Lib.hid (H.out.below hB)
    have HBr := Lib.hid hB
    clear hB
    have hcn := opD_le ((l.map ZcR.z).take j)
    rw [List.length_take, List.length_map] at hcn
    by_cases hlt : j < l.length
    · obtain ⟨c, hc⟩ : ∃ c, l[j]? = some c := ⟨_, List.getElem?_eq_getElem hlt⟩
      have Hst := Lib.hid (opD_step (zs := l.map ZcR.z) (j := j) (z := c.z) (by rw [List.getElem?_map, hc]; rfl))
      obtain ⟨g, cap', hv, _, _, hg⟩ := Hr.out.ptr hc
      injection hv with hv1 hv2 hv3
      subst hv1
      subst hv3
      have Hc := Lib.hid hc
      clear hc
      generalize opD ((l.map ZcR.z).take j) = q at *
      go_wp2_with fail
      refine (zstF (Hr.out.each j c Hc.out)).mono ?_
      rintro e w2 ⟨rfl, hb⟩
      have HB2 := Lib.hid (bthen HBr.out hb)
      clear hb hg
      by_cases hs : stS c.z = 1
      · have hq : opD ((l.map ZcR.z).take (j + 1)) = q + 1 := by rw [Hst.out, if_pos hs]
        have Hq := Lib.hid hq
        have hd : (stS c.z == 1) = true := by simpa using hs
        clear hq hs
        go_wp2_with fail
        go_roundw
        case rel => exact ⟨j + 1, by omega, by go_num, by rw [Hq.out]; go_num, HB2.out⟩
        case measure => simp [intOf]; omega
      · have hq : opD ((l.map ZcR.z).take (j + 1)) = q := by rw [Hst.out, if_neg hs]; rfl
        have Hq := Lib.hid hq
        have hd : (stS c.z == 1) = false := by simpa using hs
        clear hq hs
        go_wp2_with fail
        go_roundw
        case rel => exact ⟨j + 1, by omega, by go_num, by rw [Hq.out], HB2.out⟩
        case measure => simp [intOf]; omega
    · obtain rfl : j = l.length := by omega
      have hall : (l.map ZcR.z).take l.length = l.map ZcR.z := List.take_of_length_le (by simp)
      rw [hall]
      have c2 : wr.cell? ⟨D, 2, none⟩ = some (.int .i64 d.opn) := (Hr.out.blk.cell 2).trans rfl
      clear hall
      go_wp2_with fail
      go_ret
      exact ⟨rfl, HBr.out⟩
set_option maxRecDepth 100000 in
set_option maxHeartbeats 4000000 in
theorem dap_down {lo D : Nat} {w : World} {vz : Value} {d : DvR} {l : List ZcR} (z : Int) (s : List Nat) (h : DvAt lo w D vz d l) (hd : d.down = true) : Calls Try.prog 55 #[.pointer (some ⟨D, 0, none⟩), .int .i64 z, .agg (bA s)] w fun e w' => e = .returned (.tuple #[.int .i64 0, .int .i64 34]) ∧ Below w.heap.size w w' := by
  have Hb0 := Lib.hid (below_alloc w (Obj.cells (bA s) 34))
  have HX := Lib.hid (Blk.new w 34 (bA s))
  have H0 := Lib.hid (h.below Hb0.out)
  clear h
  go_enter Try.func55, Try.ntmps55
  go_upto_region 1 with fail
  generalize w.alloc (Obj.cells (bA s) 34) = w0 at *
  go_wp2_with fail
  refine (dcm_down z H0.out hd).mono ?_
  rintro e w1 ⟨rfl, rfl⟩
  go_wp2_with fail
  go_ret2
  exact ⟨rfl, Hb0.out⟩
set_option maxRecDepth 100000 in
set_option maxHeartbeats 4000000 in
theorem dap_no {lo D : Nat} {w : World} {vz : Value} {d : DvR} {l : List ZcR} (z : Int) (s : List Nat) (h : DvAt lo w D vz d l) (hd : d.down = false) (hh : dhB l.length z = false) : Calls Try.prog 55 #[.pointer (some ⟨D, 0, none⟩), .int .i64 z, .agg (bA s)] w fun e w' => e = .returned (.tuple #[.int .i64 0, .int .i64 13]) ∧ Below w.heap.size w w' := by
  have Hb0 := Lib.hid (below_alloc w (Obj.cells (bA s) 34))
  have HX := Lib.hid (Blk.new w 34 (bA s))
  have H0 := Lib.hid (h.below Hb0.out)
  clear h
  go_enter Try.func55, Try.ntmps55
  go_upto_region 1 with fail
  generalize w.alloc (Obj.cells (bA s) 34) = w0 at *
  go_wp2_with fail
  refine (dcm_no z H0.out hd hh).mono ?_
  rintro e w1 ⟨rfl, rfl⟩
  go_wp2_with fail
  go_ret2
  exact ⟨rfl, Hb0.out⟩
set_option maxRecDepth 100000 in
set_option maxHeartbeats 4000000 in
theorem dap_full {lo D : Nat} {w : World} {vz : Value} {d : DvR} {l : List ZcR} {k : Nat} {c : ZcR} (s : List Nat) (h : DvAt lo w D vz d l) (hd : d.down = false) (hc : l[k]? = some c) (hn : 0 ≤ d.count ∧ d.count ≤ 1000000) (hl : l.length ≤ 1000) (h0 : stS c.z = 0) (h1 : ¬ (opD (l.map ZcR.z) : Int) < d.opn) : Calls Try.prog 55 #[.pointer (some ⟨D, 0, none⟩), .int .i64 (k : Nat), .agg (bA s)] w fun e w' => e = .returned (.tuple #[.int .i64 0, .int .i64 33]) ∧ DvTo lo w D vz l { d with count := d.count + 1 } (l.map ZcR.z) w' := by
  have Hb0 := Lib.hid (below_alloc w (Obj.cells (bA s) 34))
  have HX := Lib.hid (Blk.new w 34 (bA s))
  have H0 := Lib.hid (h.below Hb0.out)
  have Hc := Lib.hid hc
  have H1 := Lib.hid H0.out.cnt
  clear hc
  have Hlt := Lib.hid h.blk.lt
  clear h
  go_enter Try.func55, Try.ntmps55
  go_upto_region 1 with fail
  generalize w.alloc (Obj.cells (bA s) 34) = w0 at *
  go_wp2_with fail
  refine (dcm_ok H0.out hd Hc.out hn).mono ?_
  rintro e w1 ⟨rfl, rfl⟩
  clear hd
  have HX1 := Lib.hid (HX.out.far (p := ⟨D, 3, none⟩) (by have := Hlt.out; show w.heap.size ≠ D; omega) (.int .i64 (d.count + 1)))
  generalize w0.setCell ⟨D, 3, none⟩ (.int .i64 (d.count + 1)) = w1 at *
  go_wp2_with fail
  refine (zstF (H1.out.1.each k c Hc.out)).mono ?_
  rintro e w2 ⟨rfl, hb⟩
  have H2 := Lib.hid (H1.out.1.below hb)
  have HK2 := Lib.hid (kept_next H1.out.2 hb)
  have HX2 := Lib.hid (HX1.out.below hb HX1.out.lt)
  clear hb HX1
  have hd0 : (stS c.z == 0) = true := by simpa using h0
  have H3 := Lib.hid h1
  clear h0 h1
  go_wp2_with fail
  refine (dop H2.out hl).mono ?_
  rintro e w3 ⟨rfl, hb⟩
  have HT := Lib.hid (DvTo.after Hb0.out (DvTo.of_cnt HK2.out (DvTo.same H2.out hb)))
  have hq : decide ((opD (l.map ZcR.z) : Int) < d.opn) = false := decide_eq_false (by have := H3.out; omega)
  rw [show decide ((opD (l.map ZcR.z) : Int) < ({ d with count := d.count + 1 } : DvR).opn) = false from hq]
  clear hq
  clear hb
  go_wp2_with fail
  go_ret2
  exact ⟨rfl, HT.out⟩
set_option maxRecDepth 100000 in
set_option maxHeartbeats 4000000 in
theorem dap_ok0 {lo D : Nat} {w : World} {vz : Value} {d : DvR} {l : List ZcR} {k : Nat} {c : ZcR} (s : List Nat) (h : DvAt lo w D vz d l) (hd : d.down = false) (hc : l[k]? = some c) (hn : 0 ≤ d.count ∧ d.count ≤ 1000000) (hl : l.length ≤ 1000) (hs : s.length = 64) (hs2 : ∀ b ∈ s, b < 256) (h0 : stS c.z = 0) (h1 : (opD (l.map ZcR.z) : Int) < d.opn) : Calls Try.prog 55 #[.pointer (some ⟨D, 0, none⟩), .int .i64 (k : Nat), .agg (bA s)] w fun e w' => e = .returned (.tuple #[.int .i64 (apOS c.z), .int .i64 (apES c.z)]) ∧ DvTo lo w D vz l { d with count := d.count + 1 } ((l.map ZcR.z).set k (apSS c.z s)) w' := by
  have Hb0 := Lib.hid (below_alloc w (Obj.cells (bA s) 34))
  have HX := Lib.hid (Blk.new w 34 (bA s))
  have H0 := Lib.hid (h.below Hb0.out)
  have Hc := Lib.hid hc
  have H1 := Lib.hid H0.out.cnt
  clear hc
  have Hlt := Lib.hid h.blk.lt
  have Hs := Lib.hid hs
  have Hs2 := Lib.hid hs2
  clear hs hs2
  clear h
  go_enter Try.func55, Try.ntmps55
  go_upto_region 1 with fail
  generalize w.alloc (Obj.cells (bA s) 34) = w0 at *
  go_wp2_with fail
  refine (dcm_ok H0.out hd Hc.out hn).mono ?_
  rintro e w1 ⟨rfl, rfl⟩
  clear hd
  have HX1 := Lib.hid (HX.out.far (p := ⟨D, 3, none⟩) (by have := Hlt.out; show w.heap.size ≠ D; omega) (.int .i64 (d.count + 1)))
  generalize w0.setCell ⟨D, 3, none⟩ (.int .i64 (d.count + 1)) = w1 at *
  go_wp2_with fail
  refine (zstF (H1.out.1.each k c Hc.out)).mono ?_
  rintro e w2 ⟨rfl, hb⟩
  have H2 := Lib.hid (H1.out.1.below hb)
  have HK2 := Lib.hid (kept_next H1.out.2 hb)
  have HX2 := Lib.hid (HX1.out.below hb HX1.out.lt)
  clear hb HX1
  have hd0 : (stS c.z == 0) = true := by simpa using h0
  have H3 := Lib.hid h1
  clear h0 h1
  go_wp2_with fail
  refine (dop H2.out hl).mono ?_
  rintro e w3 ⟨rfl, hb⟩
  have Hn := Lib.hid (H2.out.below hb)
  have HKn := Lib.hid (kept_next HK2.out hb)
  have HXn := Lib.hid (HX2.out.below hb HX2.out.lt)
  have hq : decide ((opD (l.map ZcR.z) : Int) < d.opn) = true := decide_eq_true H3.out
  rw [show decide ((opD (l.map ZcR.z) : Int) < ({ d with count := d.count + 1 } : DvR).opn) = true from hq]
  clear hq
  clear hb
  go_wp2_with (first | (refine wpl_load rfl _ rfl (w.heap.size) rfl _ _ _ (HXn.out) Try.underlying34 rfl (info_sec Hs.out) ?_; go_frame))
  refine (zapF s Hs.out Hs2.out (Hn.out.each k c Hc.out) (Hn.out.ok k c Hc.out) (by have := Hn.out.lov (.inl rfl); have := Hn.out.blk.lt; omega)).mono ?_
  rintro e w4 ⟨rfl, hT⟩
  have HT := Lib.hid (DvTo.after Hb0.out (DvTo.of_cnt HKn.out (Hn.out.zone Hc.out hT (apSS_ok (Hn.out.ok k c Hc.out) Hs.out Hs2.out) ((apSS_size _ _).trans (Hn.out.size k c Hc.out)))))
  clear hT
  go_wp2_with fail
  go_ret2
  exact ⟨rfl, HT.out⟩
set_option maxRecDepth 100000 in
set_option maxHeartbeats 4000000 in
theorem dap_ok1 {lo D : Nat} {w : World} {vz : Value} {d : DvR} {l : List ZcR} {k : Nat} {c : ZcR} (s : List Nat) (h : DvAt lo w D vz d l) (hd : d.down = false) (hc : l[k]? = some c) (hn : 0 ≤ d.count ∧ d.count ≤ 1000000) (hl : l.length ≤ 1000) (hs : s.length = 64) (hs2 : ∀ b ∈ s, b < 256) (h0 : stS c.z ≠ 0) : Calls Try.prog 55 #[.pointer (some ⟨D, 0, none⟩), .int .i64 (k : Nat), .agg (bA s)] w fun e w' => e = .returned (.tuple #[.int .i64 (apOS c.z), .int .i64 (apES c.z)]) ∧ DvTo lo w D vz l { d with count := d.count + 1 } ((l.map ZcR.z).set k (apSS c.z s)) w' := by
  have Hb0 := Lib.hid (below_alloc w (Obj.cells (bA s) 34))
  have HX := Lib.hid (Blk.new w 34 (bA s))
  have H0 := Lib.hid (h.below Hb0.out)
  have Hc := Lib.hid hc
  have H1 := Lib.hid H0.out.cnt
  clear hc
  have Hlt := Lib.hid h.blk.lt
  have Hs := Lib.hid hs
  have Hs2 := Lib.hid hs2
  clear hs hs2
  clear h
  go_enter Try.func55, Try.ntmps55
  go_upto_region 1 with fail
  generalize w.alloc (Obj.cells (bA s) 34) = w0 at *
  go_wp2_with fail
  refine (dcm_ok H0.out hd Hc.out hn).mono ?_
  rintro e w1 ⟨rfl, rfl⟩
  clear hd
  have HX1 := Lib.hid (HX.out.far (p := ⟨D, 3, none⟩) (by have := Hlt.out; show w.heap.size ≠ D; omega) (.int .i64 (d.count + 1)))
  generalize w0.setCell ⟨D, 3, none⟩ (.int .i64 (d.count + 1)) = w1 at *
  go_wp2_with fail
  refine (zstF (H1.out.1.each k c Hc.out)).mono ?_
  rintro e w2 ⟨rfl, hb⟩
  have H2 := Lib.hid (H1.out.1.below hb)
  have HK2 := Lib.hid (kept_next H1.out.2 hb)
  have HX2 := Lib.hid (HX1.out.below hb HX1.out.lt)
  clear hb HX1
  have hd0 : (stS c.z == 0) = false := by simpa using h0
  have Hn := H2
  have HKn := HK2
  have HXn := HX2
  clear h0
  go_wp2_with (first | (refine wpl_load rfl _ rfl (w.heap.size) rfl _ _ _ (HXn.out) Try.underlying34 rfl (info_sec Hs.out) ?_; go_frame))
  refine (zapF s Hs.out Hs2.out (Hn.out.each k c Hc.out) (Hn.out.ok k c Hc.out) (by have := Hn.out.lov (.inl rfl); have := Hn.out.blk.lt; omega)).mono ?_
  rintro e w4 ⟨rfl, hT⟩
  have HT := Lib.hid (DvTo.after Hb0.out (DvTo.of_cnt HKn.out (Hn.out.zone Hc.out hT (apSS_ok (Hn.out.ok k c Hc.out) Hs.out Hs2.out) ((apSS_size _ _).trans (Hn.out.size k c Hc.out)))))
  clear hT
  go_wp2_with fail
  go_ret2
  exact ⟨rfl, HT.out⟩
set_option maxRecDepth 100000 in
set_option maxHeartbeats 4000000 in
theorem drd_down {lo D : Nat} {w : World} {vz : Value} {d : DvR} {l : List ZcR} (off0 off : Int) (h : DvAt lo w D vz d l) (hd : d.down = true) : Calls Try.prog 61 #[.pointer (some ⟨D, 0, none⟩), .int .i64 off0, .int .i64 off] w fun e w' => e = .returned (.tuple #[.agg (bA (zeros 64)), .int .i64 34]) ∧ Below w.heap.size w w' := by
  have Hb0 := Lib.hid (below_alloc w (Obj.cells (bA (zeros 64)) 34))
  have HX := Lib.hid (Blk.new w 34 (bA (zeros 64)))
  have H0 := Lib.hid (h.below Hb0.out)
  have hz64 := zero_secF
  clear h
  go_enter Try.func61, Try.ntmps61
  go_upto_region 1 with fail
  generalize w.alloc (Obj.cells (bA (zeros 64)) 34) = w0 at *
  go_wp2_with fail
  refine (dcm_down off0 H0.out hd).mono ?_
  rintro e w1 ⟨rfl, rfl⟩
  go_wp2_with (first | (refine wpl_store rfl _ _ rfl (w.heap.size) (bA (zeros 64)) rfl rfl _ _ HX.out (info_sec (zeros_length 64)) rfl (bA_one _) ?_; intro w9 hSg hKg; have HSg := Lib.hid hSg; have HKg := Lib.hid hKg; clear hSg hKg; go_frame))
  exact bodyPost_ret (v := .tuple #[.agg (bA (zeros 64)), .int .i64 (34)]) (results_cell_slot Try.results61 _ _ (w.heap.size) 34 _ _ _ rfl rfl HSg.out Try.underlying34 rfl (info_sec (zeros_length 64))) rfl ⟨rfl, bkept Hb0.out (Nat.le_refl _) HKg.out (fun i hi h => by omega)⟩
set_option maxRecDepth 100000 in
set_option maxHeartbeats 4000000 in
theorem drd_no {lo D : Nat} {w : World} {vz : Value} {d : DvR} {l : List ZcR} (off0 off : Int) (h : DvAt lo w D vz d l) (hd : d.down = false) (hh : dhB l.length off0 = false) : Calls Try.prog 61 #[.pointer (some ⟨D, 0, none⟩), .int .i64 off0, .int .i64 off] w fun e w' => e = .returned (.tuple #[.agg (bA (zeros 64)), .int .i64 13]) ∧ Below w.heap.size w w' := by
  have Hb0 := Lib.hid (below_alloc w (Obj.cells (bA (zeros 64)) 34))
  have HX := Lib.hid (Blk.new w 34 (bA (zeros 64)))
  have H0 := Lib.hid (h.below Hb0.out)
  have hz64 := zero_secF
  clear h
  go_enter Try.func61, Try.ntmps61
  go_upto_region 1 with fail
  generalize w.alloc (Obj.cells (bA (zeros 64)) 34) = w0 at *
  go_wp2_with fail
  refine (dcm_no off0 H0.out hd hh).mono ?_
  rintro e w1 ⟨rfl, rfl⟩
  go_wp2_with (first | (refine wpl_store rfl _ _ rfl (w.heap.size) (bA (zeros 64)) rfl rfl _ _ HX.out (info_sec (zeros_length 64)) rfl (bA_one _) ?_; intro w9 hSg hKg; have HSg := Lib.hid hSg; have HKg := Lib.hid hKg; clear hSg hKg; go_frame))
  exact bodyPost_ret (v := .tuple #[.agg (bA (zeros 64)), .int .i64 (13)]) (results_cell_slot Try.results61 _ _ (w.heap.size) 34 _ _ _ rfl rfl HSg.out Try.underlying34 rfl (info_sec (zeros_length 64))) rfl ⟨rfl, bkept Hb0.out (Nat.le_refl _) HKg.out (fun i hi h => by omega)⟩
theorem rdVS_64 {z : ZsR} (hok : ZsOk z) (off : Int) : (rdVS z off).length = 64 := by
  unfold rdVS
  by_cases h : rdES z off = 0
  · rw [if_pos h]
    have hh : holS z off = true := by
      cases hh : holS z off with
      | true => rfl
      | false =>
        unfold rdES at h
        by_cases h4 : z.failed = 4
        · rw [if_pos h4] at h; exact absurd h (by decide)
        · rw [if_neg h4, if_neg (by rw [hh]; decide)] at h; exact absurd h (by decide)
    obtain ⟨o1, o2⟩ : 0 ≤ off ∧ off < (z.ss.length : Int) := by unfold holS at hh; simpa using hh
    exact getD_64 hok.w64 _ (by omega)
  · rw [if_neg h]; exact zeros_length 64
set_option maxRecDepth 100000 in
set_option maxHeartbeats 4000000 in
theorem drd_ok {lo D : Nat} {w : World} {vz : Value} {d : DvR} {l : List ZcR} {k : Nat} {c : ZcR} {V : List Nat} {E0 : Int} (off : Int) (hV : rdVS c.z off = V) (hE : rdES c.z off = E0) (h : DvAt lo w D vz d l) (hd : d.down = false) (hc : l[k]? = some c) (hn : 0 ≤ d.count ∧ d.count ≤ 1000000) : Calls Try.prog 61 #[.pointer (some ⟨D, 0, none⟩), .int .i64 (k : Nat), .int .i64 off] w fun e w' => e = .returned (.tuple #[.agg (bA V), .int .i64 E0]) ∧ DvTo lo w D vz l { d with count := d.count + 1 } (l.map ZcR.z) w' := by
  have Hb0 := Lib.hid (below_alloc w (Obj.cells (bA (zeros 64)) 34))
  have HX := Lib.hid (Blk.new w 34 (bA (zeros 64)))
  have H0 := Lib.hid (h.below Hb0.out)
  have hz64 := zero_secF
  have Hc := Lib.hid hc
  have H1 := Lib.hid H0.out.cnt
  have Hlt := Lib.hid h.blk.lt
  have H64 : Hid (V.length = 64) := Lib.hid (hV ▸ rdVS_64 (h.ok k c hc) off)
  have HV := Lib.hid hV
  have HE := Lib.hid hE
  clear hV hE
  have HnX : Hid (¬ DvF D vz l w.heap.size) := Lib.hid (fun hi => Nat.lt_irrefl _ (h.lt hi))
  clear hc
  clear h
  go_enter Try.func61, Try.ntmps61
  go_upto_region 1 with fail
  generalize w.alloc (Obj.cells (bA (zeros 64)) 34) = w0 at *
  go_wp2_with fail
  refine (dcm_ok H0.out hd Hc.out hn).mono ?_
  rintro e w1 ⟨rfl, rfl⟩
  clear hd
  have HX1 := Lib.hid (HX.out.far (p := ⟨D, 3, none⟩) (by have := Hlt.out; show w.heap.size ≠ D; omega) (.int .i64 (d.count + 1)))
  generalize w0.setCell ⟨D, 3, none⟩ (.int .i64 (d.count + 1)) = w1 at *
  go_wp2_with fail
  refine (zrdF off (H1.out.1.each k c Hc.out) (H1.out.1.ok k c Hc.out)).mono ?_
  rintro e w2 ⟨rfl, hb⟩
  rw [HV.out, HE.out]
  have H2 := Lib.hid (H1.out.1.below hb)
  have HK2 := Lib.hid (kept_next H1.out.2 hb)
  have HX2 := Lib.hid (HX1.out.below hb HX1.out.lt)
  clear hb HX1
  go_wp2_with (first | (refine wpl_store rfl _ _ rfl (w.heap.size) (bA V) rfl rfl _ _ HX2.out (info_sec H64.out) (by rw [bA_size, bA_size, zeros_length, H64.out]) (bA_one _) ?_; intro w9 hSg hKg; have HSg := Lib.hid hSg; have HKg := Lib.hid hKg; clear hSg hKg; go_frame))
  have HT : Hid (DvTo lo w D vz l { d with count := d.count + 1 } (l.map ZcR.z) w9) := Lib.hid ⟨l, H2.out.kept HKg.out (fun i hi e => HnX.out (e ▸ hi)), rfl, (((Kept.of_below (S := DvF D vz l) Hb0.out).andThen (U := fun i => DvF D vz l i ∨ i = w.heap.size) HK2.out (fun _ _ h => .inl h) (fun _ _ h => .inl h)).andThen (U := fun i => DvF D vz l i ∨ i = w.heap.size) HKg.out (fun _ _ h => h) (fun _ _ h => .inr h)).mono (fun i hi h => h.elim id (fun e => absurd hi (by omega))), fun _ h => .inl h⟩
  exact bodyPost_ret (v := .tuple #[.agg (bA V), .int .i64 (E0)]) (results_cell_slot Try.results61 _ _ (w.heap.size) 34 _ _ _ rfl rfl HSg.out Try.underlying34 rfl (info_sec H64.out)) rfl ⟨rfl, HT.out⟩
set_option maxRecDepth 100000 in
set_option maxHeartbeats 2000000 in
theorem dcr {lo D : Nat} {w : World} {vz : Value} {d : DvR} {l : List ZcR} (h : DvAt lo w D vz d l) : Calls Try.prog 89 #[.pointer (some ⟨D, 0, none⟩)] w fun e w' => e = .returned (.tuple #[]) ∧ DvTo lo w D vz l { d with down := true } (l.map ZcR.z) w' := by
  have c4 : w.cell? ⟨D, 4, none⟩ = some (.bool d.down) := (h.blk.cell 4).trans rfl
  have f4 := h.blk.frozen 4
  have HT := Lib.hid (h.cell 4 (.bool true) (d' := { d with down := true }) rfl rfl)
  clear h
  go_enter Try.func89, Try.ntmps89
  go_wp2_with fail
  go_end0
  exact ⟨rfl, HT.out⟩
end Go.Proofs.Ytajkajgnjcnolaa

