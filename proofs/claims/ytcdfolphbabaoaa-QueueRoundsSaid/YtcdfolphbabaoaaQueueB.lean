/-
  Layer 9 (queue): send and receive: a select of one case, that never waits.
-/
import Derived.Test.YtcdfolphbabaoaaBaseR
import Derived.Conc.LoneSelect
import Derived.KernelRfl
namespace Go.Proofs.Ytcdfolphbabaoaa
open Go.RowKit Go.Conc
set_option linter.unusedVariables false
set_option linter.unnecessarySimpa false
set_option linter.unusedSimpArgs false

set_option maxRecDepth 100000 in
theorem qsendI_room {A C cap s r : Nat} {buf : Array Value} {w : World} (hA : Blk w A 59 #[.chan (some C)]) (hC : w.heap[C]? = some (.chan cap buf false s r false)) (hroom : buf.size < cap) (p : Option Addr) : Calls Try.prog 23 #[.pointer (some ⟨A, 0, none⟩), .pointer p] w fun e w' => e = .returned (.bool true) ∧ w' = w.setChan C cap (buf.push (.pointer p)) false (s + 1) r false := by
  have c0 := blk_one hA
  refine calls_of_loneTo fun cs => ?_
  have e : Frame.enter Try.prog 23 #[.pointer (some ⟨A, 0, none⟩), .pointer p] .normal = (base 23).at ⟨#[.pointer (some ⟨A, 0, none⟩), .pointer p, undef, undef, undef, undef, undef, undef, undef, undef, undef, undef, undef], []⟩ [.code (Try.f23.body.getD .skip)] := by
    simp [Frame.enter, Frame.at, Try.func23, base, Try.f23]
    try rfl
  rw [e]
  refine LoneTo.goes (n := 17) ?_
  simp only [Try.f23, Option.getD_some]
  s_c stepG_seq
  s_reg
  s_op
  s_c stepG_region_end
  s_c stepG_seq
  s_c stepG_seq
  s_reg
  s_op
  s_op
  s_op
  s_op
  s_c stepG_region_end
  s_reg
  s_op
  s_c stepG_region_end
  s_c stepG_seq
  s_reg
  s_stop
  refine LoneTo.step (step_lone_select_send_room (c := C) (v := .pointer p) (z' := .pointer none) (stepG_comm (cases := #[scase C (.pointer p) (.pointer none)]) (blocking := false) (shape := .select) (w' := w) rfl rfl (by decide) (by simp [go_sem, execOp, scase, Act.eval])) hC hroom) ?_
  rw [Frame.finish_at]
  walk_nrm
  refine LoneTo.goes (n := 10) ?_
  s_op
  s_op
  s_c stepG_region_end
  s_c stepG_block
  s_cond true
  s_c stepG_seq
  s_reg
  s_op
  s_c stepG_region_end
  s_c stepG_ret'
  s_stop
  refine LoneTo.done ⟨.returned (.bool true), _, rfl, ⟨rfl, rfl⟩, rfl, rfl, rfl, rfl, _, Try.func23, by simp [results, Try.f23, Frame.at]⟩

set_option maxRecDepth 100000 in
theorem qsendI_full {A C cap s r : Nat} {buf : Array Value} {w : World} (hA : Blk w A 59 #[.chan (some C)]) (hC : w.heap[C]? = some (.chan cap buf false s r false)) (hfull : cap ≤ buf.size) (p : Option Addr) : Calls Try.prog 23 #[.pointer (some ⟨A, 0, none⟩), .pointer p] w fun e w' => e = .returned (.bool false) ∧ w' = w := by
  have c0 := blk_one hA
  refine calls_of_loneTo fun cs => ?_
  have e : Frame.enter Try.prog 23 #[.pointer (some ⟨A, 0, none⟩), .pointer p] .normal = (base 23).at ⟨#[.pointer (some ⟨A, 0, none⟩), .pointer p, undef, undef, undef, undef, undef, undef, undef, undef, undef, undef, undef], []⟩ [.code (Try.f23.body.getD .skip)] := by
    simp [Frame.enter, Frame.at, Try.func23, base, Try.f23]
    try rfl
  rw [e]
  refine LoneTo.goes (n := 17) ?_
  simp only [Try.f23, Option.getD_some]
  s_c stepG_seq
  s_reg
  s_op
  s_c stepG_region_end
  s_c stepG_seq
  s_c stepG_seq
  s_reg
  s_op
  s_op
  s_op
  s_op
  s_c stepG_region_end
  s_reg
  s_op
  s_c stepG_region_end
  s_c stepG_seq
  s_reg
  s_stop
  refine LoneTo.step (step_lone_select_send_full (c := C) (v := .pointer p) (z' := .pointer none) (stepG_comm (cases := #[scase C (.pointer p) (.pointer none)]) (blocking := false) (shape := .select) (w' := w) rfl rfl (by decide) (by simp [go_sem, execOp, scase, Act.eval])) hC hfull) ?_
  rw [Frame.finish_at]
  walk_nrm
  refine LoneTo.goes (n := 10) ?_
  s_op
  s_op
  s_c stepG_region_end
  s_c stepG_block
  s_cond false
  s_c stepG_seq
  s_reg
  s_op
  s_c stepG_region_end
  s_c stepG_ret'
  s_stop
  refine LoneTo.done ⟨.returned (.bool false), _, rfl, ⟨rfl, rfl⟩, rfl, rfl, rfl, rfl, _, Try.func23, by simp [results, Try.f23, Frame.at]⟩

set_option maxRecDepth 100000 in
theorem qrecvI_some {A C cap s r : Nat}{p : Option Addr} {l : List Value} {w : World} (hA : Blk w A 59 #[.chan (some C)]) (hC : w.heap[C]? = some (.chan cap (.pointer p :: l).toArray false s r false))  : Calls Try.prog 24 #[.pointer (some ⟨A, 0, none⟩)] w fun e w' => e = .returned (.pointer p) ∧ w' = w.setChan C cap l.toArray false s (r + 1) false := by
  have c0 := blk_one hA
  refine calls_of_loneTo fun cs => ?_
  have e : Frame.enter Try.prog 24 #[.pointer (some ⟨A, 0, none⟩)] .normal = (base 24).at ⟨#[.pointer (some ⟨A, 0, none⟩), undef, undef, undef, undef, undef, undef, undef, undef, undef, undef, undef, undef], []⟩ [.code (Try.f24.body.getD .skip)] := by
    simp [Frame.enter, Frame.at, Try.func24, base, Try.f24]
    try rfl
  rw [e]
  refine LoneTo.goes (n := 13) ?_
  simp only [Try.f24, Option.getD_some]
  s_c stepG_seq
  s_reg
  s_op
  s_c stepG_region_end
  s_c stepG_seq
  s_reg
  s_op
  s_op
  s_op
  s_op
  s_c stepG_region_end
  s_c stepG_seq
  s_reg
  s_stop
  refine LoneTo.step (step_lone_select_recv_buf (c := C) (z := .pointer none) (stepG_comm (cases := #[rcase C (.pointer none)]) (blocking := false) (shape := .select) (w' := w) rfl rfl (by decide) (by simp [go_sem, execOp, rcase, Act.eval])) hC (by simp)) ?_
  rw [Frame.finish_at]
  walk_nrm
  refine LoneTo.goes (n := 16) ?_
  s_op
  s_op
  s_c stepG_region_end
  s_c stepG_block
  s_cond true
  s_c stepG_seq
  s_reg
  s_op
  s_op
  s_c stepG_region_end
  s_c stepG_seq
  s_reg
  s_op
  s_op
  s_c stepG_region_end
  s_c stepG_ret'
  s_stop
  refine LoneTo.done ⟨.returned (.pointer p), _, rfl, ⟨rfl, by simp⟩, rfl, rfl, rfl, rfl, _, Try.func24, by simp [results, Try.f24, Frame.at]⟩

set_option maxRecDepth 100000 in
theorem qrecvI_none {A C cap s r : Nat} {w : World} (hA : Blk w A 59 #[.chan (some C)]) (hC : w.heap[C]? = some (.chan cap #[] false s r false))  : Calls Try.prog 24 #[.pointer (some ⟨A, 0, none⟩)] w fun e w' => e = .returned (.pointer none) ∧ w' = w := by
  have c0 := blk_one hA
  refine calls_of_loneTo fun cs => ?_
  have e : Frame.enter Try.prog 24 #[.pointer (some ⟨A, 0, none⟩)] .normal = (base 24).at ⟨#[.pointer (some ⟨A, 0, none⟩), undef, undef, undef, undef, undef, undef, undef, undef, undef, undef, undef, undef], []⟩ [.code (Try.f24.body.getD .skip)] := by
    simp [Frame.enter, Frame.at, Try.func24, base, Try.f24]
    try rfl
  rw [e]
  refine LoneTo.goes (n := 13) ?_
  simp only [Try.f24, Option.getD_some]
  s_c stepG_seq
  s_reg
  s_op
  s_c stepG_region_end
  s_c stepG_seq
  s_reg
  s_op
  s_op
  s_op
  s_op
  s_c stepG_region_end
  s_c stepG_seq
  s_reg
  s_stop
  refine LoneTo.step (step_lone_select_default (c := C) (z := .pointer none) (stepG_comm (cases := #[rcase C (.pointer none)]) (blocking := false) (shape := .select) (w' := w) rfl rfl (by decide) (by simp [go_sem, execOp, rcase, Act.eval])) hC) ?_
  rw [Frame.finish_at]
  walk_nrm
  refine LoneTo.goes (n := 10) ?_
  s_op
  s_op
  s_c stepG_region_end
  s_c stepG_block
  s_cond false
  s_c stepG_seq
  s_reg
  s_op
  s_c stepG_region_end
  s_c stepG_ret'
  s_stop
  refine LoneTo.done ⟨.returned (.pointer none), _, rfl, ⟨rfl, rfl⟩, rfl, rfl, rfl, rfl, _, Try.func24, by simp [results, Try.f24, Frame.at]⟩

set_option maxRecDepth 100000 in
theorem qsendS_room {A C cap s r : Nat} {buf : Array Value} {w : World} (hA : Blk w A 69 #[.chan (some C)]) (hC : w.heap[C]? = some (.chan cap buf false s r false)) (hroom : buf.size < cap) (p : Option Addr) : Calls Try.prog 29 #[.pointer (some ⟨A, 0, none⟩), .pointer p] w fun e w' => e = .returned (.bool true) ∧ w' = w.setChan C cap (buf.push (.pointer p)) false (s + 1) r false := by
  have c0 := blk_one hA
  refine calls_of_loneTo fun cs => ?_
  have e : Frame.enter Try.prog 29 #[.pointer (some ⟨A, 0, none⟩), .pointer p] .normal = (base 29).at ⟨#[.pointer (some ⟨A, 0, none⟩), .pointer p, undef, undef, undef, undef, undef, undef, undef, undef, undef, undef, undef], []⟩ [.code (Try.f29.body.getD .skip)] := by
    simp [Frame.enter, Frame.at, Try.func29, base, Try.f29]
    try rfl
  rw [e]
  refine LoneTo.goes (n := 17) ?_
  simp only [Try.f29, Option.getD_some]
  s_c stepG_seq
  s_reg
  s_op
  s_c stepG_region_end
  s_c stepG_seq
  s_c stepG_seq
  s_reg
  s_op
  s_op
  s_op
  s_op
  s_c stepG_region_end
  s_reg
  s_op
  s_c stepG_region_end
  s_c stepG_seq
  s_reg
  s_stop
  refine LoneTo.step (step_lone_select_send_room (c := C) (v := .pointer p) (z' := .pointer none) (stepG_comm (cases := #[scase C (.pointer p) (.pointer none)]) (blocking := false) (shape := .select) (w' := w) rfl rfl (by decide) (by simp [go_sem, execOp, scase, Act.eval])) hC hroom) ?_
  rw [Frame.finish_at]
  walk_nrm
  refine LoneTo.goes (n := 10) ?_
  s_op
  s_op
  s_c stepG_region_end
  s_c stepG_block
  s_cond true
  s_c stepG_seq
  s_reg
  s_op
  s_c stepG_region_end
  s_c stepG_ret'
  s_stop
  refine LoneTo.done ⟨.returned (.bool true), _, rfl, ⟨rfl, rfl⟩, rfl, rfl, rfl, rfl, _, Try.func29, by simp [results, Try.f29, Frame.at]⟩

set_option maxRecDepth 100000 in
theorem qsendS_full {A C cap s r : Nat} {buf : Array Value} {w : World} (hA : Blk w A 69 #[.chan (some C)]) (hC : w.heap[C]? = some (.chan cap buf false s r false)) (hfull : cap ≤ buf.size) (p : Option Addr) : Calls Try.prog 29 #[.pointer (some ⟨A, 0, none⟩), .pointer p] w fun e w' => e = .returned (.bool false) ∧ w' = w := by
  have c0 := blk_one hA
  refine calls_of_loneTo fun cs => ?_
  have e : Frame.enter Try.prog 29 #[.pointer (some ⟨A, 0, none⟩), .pointer p] .normal = (base 29).at ⟨#[.pointer (some ⟨A, 0, none⟩), .pointer p, undef, undef, undef, undef, undef, undef, undef, undef, undef, undef, undef], []⟩ [.code (Try.f29.body.getD .skip)] := by
    simp [Frame.enter, Frame.at, Try.func29, base, Try.f29]
    try rfl
  rw [e]
  refine LoneTo.goes (n := 17) ?_
  simp only [Try.f29, Option.getD_some]
  s_c stepG_seq
  s_reg
  s_op
  s_c stepG_region_end
  s_c stepG_seq
  s_c stepG_seq
  s_reg
  s_op
  s_op
  s_op
  s_op
  s_c stepG_region_end
  s_reg
  s_op
  s_c stepG_region_end
  s_c stepG_seq
  s_reg
  s_stop
  refine LoneTo.step (step_lone_select_send_full (c := C) (v := .pointer p) (z' := .pointer none) (stepG_comm (cases := #[scase C (.pointer p) (.pointer none)]) (blocking := false) (shape := .select) (w' := w) rfl rfl (by decide) (by simp [go_sem, execOp, scase, Act.eval])) hC hfull) ?_
  rw [Frame.finish_at]
  walk_nrm
  refine LoneTo.goes (n := 10) ?_
  s_op
  s_op
  s_c stepG_region_end
  s_c stepG_block
  s_cond false
  s_c stepG_seq
  s_reg
  s_op
  s_c stepG_region_end
  s_c stepG_ret'
  s_stop
  refine LoneTo.done ⟨.returned (.bool false), _, rfl, ⟨rfl, rfl⟩, rfl, rfl, rfl, rfl, _, Try.func29, by simp [results, Try.f29, Frame.at]⟩

set_option maxRecDepth 100000 in
theorem qrecvS_some {A C cap s r : Nat}{p : Option Addr} {l : List Value} {w : World} (hA : Blk w A 69 #[.chan (some C)]) (hC : w.heap[C]? = some (.chan cap (.pointer p :: l).toArray false s r false))  : Calls Try.prog 30 #[.pointer (some ⟨A, 0, none⟩)] w fun e w' => e = .returned (.pointer p) ∧ w' = w.setChan C cap l.toArray false s (r + 1) false := by
  have c0 := blk_one hA
  refine calls_of_loneTo fun cs => ?_
  have e : Frame.enter Try.prog 30 #[.pointer (some ⟨A, 0, none⟩)] .normal = (base 30).at ⟨#[.pointer (some ⟨A, 0, none⟩), undef, undef, undef, undef, undef, undef, undef, undef, undef, undef, undef, undef], []⟩ [.code (Try.f30.body.getD .skip)] := by
    simp [Frame.enter, Frame.at, Try.func30, base, Try.f30]
    try rfl
  rw [e]
  refine LoneTo.goes (n := 13) ?_
  simp only [Try.f30, Option.getD_some]
  s_c stepG_seq
  s_reg
  s_op
  s_c stepG_region_end
  s_c stepG_seq
  s_reg
  s_op
  s_op
  s_op
  s_op
  s_c stepG_region_end
  s_c stepG_seq
  s_reg
  s_stop
  refine LoneTo.step (step_lone_select_recv_buf (c := C) (z := .pointer none) (stepG_comm (cases := #[rcase C (.pointer none)]) (blocking := false) (shape := .select) (w' := w) rfl rfl (by decide) (by simp [go_sem, execOp, rcase, Act.eval])) hC (by simp)) ?_
  rw [Frame.finish_at]
  walk_nrm
  refine LoneTo.goes (n := 16) ?_
  s_op
  s_op
  s_c stepG_region_end
  s_c stepG_block
  s_cond true
  s_c stepG_seq
  s_reg
  s_op
  s_op
  s_c stepG_region_end
  s_c stepG_seq
  s_reg
  s_op
  s_op
  s_c stepG_region_end
  s_c stepG_ret'
  s_stop
  refine LoneTo.done ⟨.returned (.pointer p), _, rfl, ⟨rfl, by simp⟩, rfl, rfl, rfl, rfl, _, Try.func30, by simp [results, Try.f30, Frame.at]⟩

set_option maxRecDepth 100000 in
theorem qrecvS_none {A C cap s r : Nat} {w : World} (hA : Blk w A 69 #[.chan (some C)]) (hC : w.heap[C]? = some (.chan cap #[] false s r false))  : Calls Try.prog 30 #[.pointer (some ⟨A, 0, none⟩)] w fun e w' => e = .returned (.pointer none) ∧ w' = w := by
  have c0 := blk_one hA
  refine calls_of_loneTo fun cs => ?_
  have e : Frame.enter Try.prog 30 #[.pointer (some ⟨A, 0, none⟩)] .normal = (base 30).at ⟨#[.pointer (some ⟨A, 0, none⟩), undef, undef, undef, undef, undef, undef, undef, undef, undef, undef, undef, undef], []⟩ [.code (Try.f30.body.getD .skip)] := by
    simp [Frame.enter, Frame.at, Try.func30, base, Try.f30]
    try rfl
  rw [e]
  refine LoneTo.goes (n := 13) ?_
  simp only [Try.f30, Option.getD_some]
  s_c stepG_seq
  s_reg
  s_op
  s_c stepG_region_end
  s_c stepG_seq
  s_reg
  s_op
  s_op
  s_op
  s_op
  s_c stepG_region_end
  s_c stepG_seq
  s_reg
  s_stop
  refine LoneTo.step (step_lone_select_default (c := C) (z := .pointer none) (stepG_comm (cases := #[rcase C (.pointer none)]) (blocking := false) (shape := .select) (w' := w) rfl rfl (by decide) (by simp [go_sem, execOp, rcase, Act.eval])) hC) ?_
  rw [Frame.finish_at]
  walk_nrm
  refine LoneTo.goes (n := 10) ?_
  s_op
  s_op
  s_c stepG_region_end
  s_c stepG_block
  s_cond false
  s_c stepG_seq
  s_reg
  s_op
  s_c stepG_region_end
  s_c stepG_ret'
  s_stop
  refine LoneTo.done ⟨.returned (.pointer none), _, rfl, ⟨rfl, rfl⟩, rfl, rfl, rfl, rfl, _, Try.func30, by simp [results, Try.f30, Frame.at]⟩

end Go.Proofs.Ytcdfolphbabaoaa
