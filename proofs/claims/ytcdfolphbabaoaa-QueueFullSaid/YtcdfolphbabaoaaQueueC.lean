/-
  Contracts of layer 9 (queue): New, Put, Take, Len, Room.
-/
import Derived.Test.YtcdfolphbabaoaaQueueA
import Derived.Test.YtcdfolphbabaoaaQueueB
namespace Go.Proofs.Ytcdfolphbabaoaa
open Go.RowKit Go.Conc
set_option linter.unusedVariables false
set_option linter.unnecessarySimpa false
set_option linter.unusedSimpArgs false

def encI (z : Int) : Value := .int .i64 z
def encS (s : ByteArray) : Value := .string s
set_option maxRecDepth 100000 in
set_option maxHeartbeats 2000000 in
theorem qmkI (w : World) (room : Nat) (h2 : room ≤ 4096) : (Instr.makeChan 57 (.int .i64 room)).run Try.prog w = .ok (.chan (some w.heap.size)) (w.alloc (.chan room #[] false 0 0 false)) := by
  have h : (Try.prog.info? 61).map (·.bytes) = some 8 := by kernel_rfl
  obtain ⟨i, hi, hb⟩ := Option.map_eq_some_iff.1 h
  simpa using run_makeChan (P := Try.prog) (w := w) Try.underlying57 hi .i64 room (by omega) (by rw [hb]; omega)
set_option maxRecDepth 100000 in
set_option maxHeartbeats 2000000 in
theorem qnewI_no (room : Int) (w : World) (h : room < 1 ∨ 4096 < room) : Calls Try.prog 8 #[.int .i64 room] w fun e w' => e = .returned (.tuple #[.pointer none, .int .i64 13]) ∧ w = w' := by
  rcases h with h | h
  · go_enter Try.func8, Try.ntmps8
    go_wp2
    go_ret2
    exact ⟨rfl, rfl⟩
  · have h' : ¬ room < 1 := by omega
    go_enter Try.func8, Try.ntmps8
    go_wp2
    go_ret2
    exact ⟨rfl, rfl⟩
set_option maxRecDepth 100000 in
set_option maxHeartbeats 2000000 in
theorem qnewI_ok (room : Nat) (w : World) (h1 : 1 ≤ room) (h2 : room ≤ 4096) : Calls Try.prog 8 #[.int .i64 room] w fun e w' => e = .returned (.tuple #[.pointer (some ⟨w.heap.size + 1, 0, none⟩), .int .i64 0]) ∧ Below w.heap.size w w' ∧ QAt 59 3 encI w.heap.size w' (w.heap.size + 1) w.heap.size room [] := by
  have hm := qmkI w room h2
  have d1 : ¬ (room : Int) < 1 := by omega
  have d2 : ¬ (4096 : Int) < (room : Int) := by omega
  go_enter Try.func8, Try.ntmps8
  go_wp2
  go_ret2
  have hb := bthen (below_alloc w (Obj.chan room #[] false 0 0 false)) (below_alloc _ (Obj.cells #[.chan (some w.heap.size)] 59))
  have hg := Blk.new (w.alloc (Obj.chan room #[] false 0 0 false)) 59 #[.chan (some w.heap.size)]
  rw [show (w.alloc (Obj.chan room #[] false 0 0 false)).heap.size = w.heap.size + 1 by simp] at hg
  refine ⟨rfl, hb, hg, ⟨0, 0, ?_⟩, by simp, by omega, Nat.le_refl _, by simp, h2⟩
  exact (Below.heap_alloc _ _ _ (by simp)).trans (heap_alloc_new w _)
set_option maxRecDepth 100000 in
set_option maxHeartbeats 2000000 in
theorem qputI_room {lo A C room : Nat} {w : World} {qs : List (Nat × Int)} (x : Int) (h : QAt 59 3 encI lo w A C room qs) (hl : qs.length < room) : Calls Try.prog 10 #[.pointer (some ⟨A, 0, none⟩), .int .i64 x] w fun e w' => e = .returned (.int .i64 0) ∧ ∃ p, QAt 59 3 encI lo w' A C room (qs ++ [(p, x)]) ∧ Kept (· = C) w w' ∧ w.heap.size ≤ p := by
  have b1 := below_alloc w (Obj.cells #[.int .i64 x] 3)
  have h1 := h.below b1
  have hx := Blk.new w 3 #[.int .i64 x]
  obtain ⟨s, r, hc⟩ := h1.ch
  have HQ := Lib.hid h1
  have HB := Lib.hid b1
  have HX := Lib.hid hx
  have HC := Lib.hid hc
  have hlo : lo ≤ w.heap.size := Nat.le_trans h.leA (Nat.le_of_lt h.ltA)
  clear h b1 h1 hx hc
  go_enter Try.func10, Try.ntmps10
  go_wp2_with fail
  refine (qsendI_room HQ.out.blk HC.out (by simp [ptrs]; omega) (some ⟨w.heap.size, 0, none⟩)).mono ?_
  rw [show (ptrs qs).toArray.push (.pointer (some ⟨w.heap.size, 0, none⟩)) = (ptrs (qs ++ [(w.heap.size, x)])).toArray by simp [ptrs]]
  rintro e w' ⟨rfl, rfl⟩
  go_wp2_with fail
  go_ret
  refine ⟨rfl, w.heap.size, HQ.out.turn (fun y hy => ?_) (by simp; omega), kept_a HB.out (kept_setChan _ _ _ _ _ _ _ _), Nat.le_refl _⟩
  rcases List.mem_append.1 hy with hy | hy
  · exact HQ.out.box y hy
  · obtain rfl : y = (w.heap.size, x) := by simpa using hy
    exact ⟨hlo, HX.out⟩
set_option maxRecDepth 100000 in
set_option maxHeartbeats 2000000 in
theorem qputI_full {lo A C room : Nat} {w : World} {qs : List (Nat × Int)} (x : Int) (h : QAt 59 3 encI lo w A C room qs) (hl : qs.length = room) : Calls Try.prog 10 #[.pointer (some ⟨A, 0, none⟩), .int .i64 x] w fun e w' => e = .returned (.int .i64 17) ∧ Below w.heap.size w w' := by
  have b1 := below_alloc w (Obj.cells #[.int .i64 x] 3)
  have h1 := h.below b1
  obtain ⟨s, r, hc⟩ := h1.ch
  have HQ := Lib.hid h1
  have HB := Lib.hid b1
  have HC := Lib.hid hc
  clear h b1 h1 hc
  go_enter Try.func10, Try.ntmps10
  go_wp2_with fail
  refine (qsendI_full HQ.out.blk HC.out (by simp [ptrs]; omega) (some ⟨w.heap.size, 0, none⟩)).mono ?_
  rintro e w' ⟨rfl, rfl⟩
  go_wp2_with fail
  go_ret
  exact ⟨rfl, HB.out⟩
set_option maxRecDepth 100000 in
set_option maxHeartbeats 2000000 in
theorem qtakeI_none {lo A C room : Nat} {w : World} (h : QAt 59 3 encI lo w A C room []) : Calls Try.prog 12 #[.pointer (some ⟨A, 0, none⟩)] w fun e w' => e = .returned (.tuple #[.int .i64 0, .int .i64 15]) ∧ w = w' := by
  obtain ⟨s, r, hc⟩ := h.ch
  have HQ := Lib.hid h
  have HC := Lib.hid hc
  clear h hc
  go_enter Try.func12, Try.ntmps12
  go_wp2_with fail
  refine (qrecvI_none HQ.out.blk HC.out).mono ?_
  rintro e w' ⟨rfl, rfl⟩
  go_wp2_with fail
  go_ret2
  exact ⟨rfl, rfl⟩
set_option maxRecDepth 100000 in
set_option maxHeartbeats 2000000 in
theorem qtakeI_some {lo A C room : Nat} {w : World} {qs : List (Nat × Int)} {x : Nat × Int} (h : QAt 59 3 encI lo w A C room (x :: qs)) : Calls Try.prog 12 #[.pointer (some ⟨A, 0, none⟩)] w fun e w' => e = .returned (.tuple #[.int .i64 x.2, .int .i64 0]) ∧ QAt 59 3 encI lo w' A C room qs ∧ Kept (· = C) w w' := by
  obtain ⟨s, r, hc⟩ := h.ch
  have HQ := Lib.hid h
  have HC := Lib.hid hc
  clear h hc
  go_enter Try.func12, Try.ntmps12
  go_wp2_with fail
  refine (qrecvI_some (l := ptrs qs) HQ.out.blk HC.out).mono ?_
  rintro e w' ⟨rfl, rfl⟩
  have hq := HQ.out.turn (qs' := qs) (s := s) (r := r + 1) (fun y hy => HQ.out.box y (List.mem_cons_of_mem _ hy)) (by have := HQ.out.len; simp at this; omega)
  have k := kept_setChan w C room (ptrs qs).toArray false s (r + 1) false
  have c1 : (w.setChan C room (ptrs qs).toArray false s (r + 1) false).cell? ⟨x.1, 0, none⟩ = some (.int .i64 x.2) := blk_one (HQ.out.far k (HQ.out.box x (by simp)).2)
  have HQ' := Lib.hid hq
  have HK := Lib.hid k
  clear hq k
  generalize w.setChan C room (ptrs qs).toArray false s (r + 1) false = w1 at *
  go_wp2_with fail
  go_ret2
  exact ⟨rfl, HQ'.out, HK.out⟩
set_option maxRecDepth 100000 in
set_option maxHeartbeats 2000000 in
theorem qlenI {lo A C room : Nat} {w : World} {qs : List (Nat × Int)} (h : QAt 59 3 encI lo w A C room qs) : Calls Try.prog 21 #[.pointer (some ⟨A, 0, none⟩)] w fun e w' => e = .returned (.int .i64 (qs.length : Nat)) ∧ w = w' := by
  obtain ⟨s, r, hc⟩ := h.ch
  have c0 := blk_one h.blk
  have hr := fun ty => run_len_chan (P := Try.prog) (w := w) 57 ty Try.underlying57 hc
  rw [show ((ptrs qs).toArray.size) = qs.length by simp [ptrs]] at hr
  clear hc h
  go_enter Try.func21, Try.ntmps21
  go_wp2
  go_ret
  exact ⟨rfl, rfl⟩
set_option maxRecDepth 100000 in
set_option maxHeartbeats 2000000 in
theorem qroomI {lo A C room : Nat} {w : World} {qs : List (Nat × Int)} (h : QAt 59 3 encI lo w A C room qs) : Calls Try.prog 28 #[.pointer (some ⟨A, 0, none⟩)] w fun e w' => e = .returned (.int .i64 (room : Nat)) ∧ w = w' := by
  obtain ⟨s, r, hc⟩ := h.ch
  have c0 := blk_one h.blk
  have hr := fun ty => run_cap_chan (P := Try.prog) (w := w) 57 ty Try.underlying57 hc
  
  clear hc h
  go_enter Try.func28, Try.ntmps28
  go_wp2
  go_ret
  exact ⟨rfl, rfl⟩
set_option maxRecDepth 100000 in
set_option maxHeartbeats 2000000 in
theorem qmkS (w : World) (room : Nat) (h2 : room ≤ 4096) : (Instr.makeChan 67 (.int .i64 room)).run Try.prog w = .ok (.chan (some w.heap.size)) (w.alloc (.chan room #[] false 0 0 false)) := by
  have h : (Try.prog.info? 71).map (·.bytes) = some 8 := by kernel_rfl
  obtain ⟨i, hi, hb⟩ := Option.map_eq_some_iff.1 h
  simpa using run_makeChan (P := Try.prog) (w := w) Try.underlying67 hi .i64 room (by omega) (by rw [hb]; omega)
set_option maxRecDepth 100000 in
set_option maxHeartbeats 2000000 in
theorem qnewS_no (room : Int) (w : World) (h : room < 1 ∨ 4096 < room) : Calls Try.prog 18 #[.int .i64 room] w fun e w' => e = .returned (.tuple #[.pointer none, .int .i64 13]) ∧ w = w' := by
  rcases h with h | h
  · go_enter Try.func18, Try.ntmps18
    go_wp2
    go_ret2
    exact ⟨rfl, rfl⟩
  · have h' : ¬ room < 1 := by omega
    go_enter Try.func18, Try.ntmps18
    go_wp2
    go_ret2
    exact ⟨rfl, rfl⟩
set_option maxRecDepth 100000 in
set_option maxHeartbeats 2000000 in
theorem qnewS_ok (room : Nat) (w : World) (h1 : 1 ≤ room) (h2 : room ≤ 4096) : Calls Try.prog 18 #[.int .i64 room] w fun e w' => e = .returned (.tuple #[.pointer (some ⟨w.heap.size + 1, 0, none⟩), .int .i64 0]) ∧ Below w.heap.size w w' ∧ QAt 69 9 encS w.heap.size w' (w.heap.size + 1) w.heap.size room [] := by
  have hm := qmkS w room h2
  have d1 : ¬ (room : Int) < 1 := by omega
  have d2 : ¬ (4096 : Int) < (room : Int) := by omega
  go_enter Try.func18, Try.ntmps18
  go_wp2
  go_ret2
  have hb := bthen (below_alloc w (Obj.chan room #[] false 0 0 false)) (below_alloc _ (Obj.cells #[.chan (some w.heap.size)] 69))
  have hg := Blk.new (w.alloc (Obj.chan room #[] false 0 0 false)) 69 #[.chan (some w.heap.size)]
  rw [show (w.alloc (Obj.chan room #[] false 0 0 false)).heap.size = w.heap.size + 1 by simp] at hg
  refine ⟨rfl, hb, hg, ⟨0, 0, ?_⟩, by simp, by omega, Nat.le_refl _, by simp, h2⟩
  exact (Below.heap_alloc _ _ _ (by simp)).trans (heap_alloc_new w _)
set_option maxRecDepth 100000 in
set_option maxHeartbeats 2000000 in
theorem qputS_room {lo A C room : Nat} {w : World} {qs : List (Nat × ByteArray)} (x : ByteArray) (h : QAt 69 9 encS lo w A C room qs) (hl : qs.length < room) : Calls Try.prog 19 #[.pointer (some ⟨A, 0, none⟩), .string x] w fun e w' => e = .returned (.int .i64 0) ∧ ∃ p, QAt 69 9 encS lo w' A C room (qs ++ [(p, x)]) ∧ Kept (· = C) w w' ∧ w.heap.size ≤ p := by
  have b1 := below_alloc w (Obj.cells #[.string x] 9)
  have h1 := h.below b1
  have hx := Blk.new w 9 #[.string x]
  obtain ⟨s, r, hc⟩ := h1.ch
  have HQ := Lib.hid h1
  have HB := Lib.hid b1
  have HX := Lib.hid hx
  have HC := Lib.hid hc
  have hlo : lo ≤ w.heap.size := Nat.le_trans h.leA (Nat.le_of_lt h.ltA)
  clear h b1 h1 hx hc
  go_enter Try.func19, Try.ntmps19
  go_wp2_with fail
  refine (qsendS_room HQ.out.blk HC.out (by simp [ptrs]; omega) (some ⟨w.heap.size, 0, none⟩)).mono ?_
  rw [show (ptrs qs).toArray.push (.pointer (some ⟨w.heap.size, 0, none⟩)) = (ptrs (qs ++ [(w.heap.size, x)])).toArray by simp [ptrs]]
  rintro e w' ⟨rfl, rfl⟩
  go_wp2_with fail
  go_ret
  refine ⟨rfl, w.heap.size, HQ.out.turn (fun y hy => ?_) (by simp; omega), kept_a HB.out (kept_setChan _ _ _ _ _ _ _ _), Nat.le_refl _⟩
  rcases List.mem_append.1 hy with hy | hy
  · exact HQ.out.box y hy
  · obtain rfl : y = (w.heap.size, x) := by simpa using hy
    exact ⟨hlo, HX.out⟩
set_option maxRecDepth 100000 in
set_option maxHeartbeats 2000000 in
theorem qputS_full {lo A C room : Nat} {w : World} {qs : List (Nat × ByteArray)} (x : ByteArray) (h : QAt 69 9 encS lo w A C room qs) (hl : qs.length = room) : Calls Try.prog 19 #[.pointer (some ⟨A, 0, none⟩), .string x] w fun e w' => e = .returned (.int .i64 17) ∧ Below w.heap.size w w' := by
  have b1 := below_alloc w (Obj.cells #[.string x] 9)
  have h1 := h.below b1
  obtain ⟨s, r, hc⟩ := h1.ch
  have HQ := Lib.hid h1
  have HB := Lib.hid b1
  have HC := Lib.hid hc
  clear h b1 h1 hc
  go_enter Try.func19, Try.ntmps19
  go_wp2_with fail
  refine (qsendS_full HQ.out.blk HC.out (by simp [ptrs]; omega) (some ⟨w.heap.size, 0, none⟩)).mono ?_
  rintro e w' ⟨rfl, rfl⟩
  go_wp2_with fail
  go_ret
  exact ⟨rfl, HB.out⟩
set_option maxRecDepth 100000 in
set_option maxHeartbeats 2000000 in
theorem qtakeS_none {lo A C room : Nat} {w : World} (h : QAt 69 9 encS lo w A C room []) : Calls Try.prog 20 #[.pointer (some ⟨A, 0, none⟩)] w fun e w' => e = .returned (.tuple #[.string ⟨#[]⟩, .int .i64 15]) ∧ w = w' := by
  obtain ⟨s, r, hc⟩ := h.ch
  have HQ := Lib.hid h
  have HC := Lib.hid hc
  clear h hc
  go_enter Try.func20, Try.ntmps20
  go_wp2_with fail
  refine (qrecvS_none HQ.out.blk HC.out).mono ?_
  rintro e w' ⟨rfl, rfl⟩
  go_wp2_with fail
  go_ret2
  exact ⟨rfl, rfl⟩
set_option maxRecDepth 100000 in
set_option maxHeartbeats 2000000 in
theorem qtakeS_some {lo A C room : Nat} {w : World} {qs : List (Nat × ByteArray)} {x : Nat × ByteArray} (h : QAt 69 9 encS lo w A C room (x :: qs)) : Calls Try.prog 20 #[.pointer (some ⟨A, 0, none⟩)] w fun e w' => e = .returned (.tuple #[.string x.2, .int .i64 0]) ∧ QAt 69 9 encS lo w' A C room qs ∧ Kept (· = C) w w' := by
  obtain ⟨s, r, hc⟩ := h.ch
  have HQ := Lib.hid h
  have HC := Lib.hid hc
  clear h hc
  go_enter Try.func20, Try.ntmps20
  go_wp2_with fail
  refine (qrecvS_some (l := ptrs qs) HQ.out.blk HC.out).mono ?_
  rintro e w' ⟨rfl, rfl⟩
  have hq := HQ.out.turn (qs' := qs) (s := s) (r := r + 1) (fun y hy => HQ.out.box y (List.mem_cons_of_mem _ hy)) (by have := HQ.out.len; simp at this; omega)
  have k := kept_setChan w C room (ptrs qs).toArray false s (r + 1) false
  have c1 : (w.setChan C room (ptrs qs).toArray false s (r + 1) false).cell? ⟨x.1, 0, none⟩ = some (.string x.2) := blk_one (HQ.out.far k (HQ.out.box x (by simp)).2)
  have HQ' := Lib.hid hq
  have HK := Lib.hid k
  clear hq k
  generalize w.setChan C room (ptrs qs).toArray false s (r + 1) false = w1 at *
  go_wp2_with fail
  go_ret2
  exact ⟨rfl, HQ'.out, HK.out⟩
end Go.Proofs.Ytcdfolphbabaoaa
