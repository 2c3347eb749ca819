/-
  The walk of QueuePlays.
-/
import Derived.Test.YtcdfolphbabaoaaQueueRoundsW
import Derived.Test.YtcdfolphbabaoaaQueueO
import Derived.RangeFuncFrom
import Derived.Sort.CutIn
namespace Go.Proofs.Ytcdfolphbabaoaa
open Go.RowKit Go.Shelf
attribute [local go_sem] Oper.semAt_some
set_option linter.unusedVariables false
set_option linter.unnecessarySimpa false
set_option linter.unusedSimpArgs false

/-- What lies in memory while both are played: stop at block n, the queue, the document's list. -/
structure PlQ (stop : Int) (w : World) (A C R : Nat) (ua : Option Addr) (uc : Nat) (qs : List (Nat × Int)) (zs : List Int) (W : World) : Prop where
  S : Blk W w.heap.size 3 #[.int .i64 stop]
  q : QAt 59 3 encI (w.heap.size + 1) W A C R qs
  row : RowI W ua uc zs
  z : qs.map (·.2) = zs
  B : Below w.heap.size w W
section
variable {stop : Int} {w : World} {A C R : Nat} {ua ua' : Option Addr} {uc uc' : Nat} {qs qs' : List (Nat × Int)} {zs zs' : List Int} {W W' : World}
theorem PlQ.below (h : PlQ stop w A C R ua uc qs zs W) (hb : Below W.heap.size W W') : PlQ stop w A C R ua uc qs zs W' := ⟨h.S.below hb h.S.lt, h.q.below hb, h.row.below hb, h.z, bthen' h.B hb⟩
theorem PlQ.step (h : PlQ stop w A C R ua uc qs zs W) (k : Kept (· = C) W W') (hq : QAt 59 3 encI (w.heap.size + 1) W' A C R qs') (hr : RowI W' ua' uc' zs') (hz : qs'.map (·.2) = zs') : PlQ stop w A C R ua' uc' qs' zs' W' :=
  ⟨h.q.far k h.S, hq, hr, hz, bkept h.B (Nat.le_refl _) k (fun i hi e => by have := h.q.leC; omega)⟩
theorem PlQ.tn (h : PlQ stop w A C R ua uc qs zs W) (t : TnQ C W W') : PlQ stop w A C R ua uc qs zs W' := h.step t.k (h.q.tn t) (h.row.q h.q t.k) h.z
theorem PlQ.ownF {n B : Nat} (ho : QOld n A C qs) (hn : n ≤ B) (hB : w.heap.size ≤ B) : OwnFrom (β := List (Nat × Int)) B (fun _ W => PlQ stop w A C R ua uc qs zs W) := fun s X Y row h hg hr =>
  ⟨Own.from (blk_own (β := List (Nat × Int)) _ _ (fun _ => _)) B s X Y row h.S hg hr, ownFrom_qat (γ := List (Nat × Int)) ho hn s X Y row h.q hg hr, ownFrom_rowI (β := List (Nat × Int)) s X Y row h.row hg hr, h.z, ownFrom_below (β := List (Nat × Int)) (Nat.le_refl _) hB s X Y row h.B hg hr⟩
/-- A cell that was made since is written. -/
theorem PlQ.set {m : Nat} (h : PlQ stop w A C R ua uc qs zs W) (ho : QOld m A C qs) (hr : ∀ ad, ua = some ad → ad.block < m) (hm : w.heap.size < m) (x : Value) : PlQ stop w A C R ua uc qs zs (W.setCell ⟨m, 0, none⟩ x) :=
  ⟨h.S.far (by simp; omega) _, h.q.kept ((Kept.refl (· = m) W).setCell (p := ⟨m, 0, none⟩) rfl _) (fun e => by have := ho.a; omega) (fun e => by have := ho.c; omega) (fun y hy e => by have := ho.b y hy; omega),
    h.row.set (p := ⟨m, 0, none⟩) (fun ad e => by have := hr ad e; show ad.block ≠ m; omega) _, h.z, h.B.setCell (p := ⟨m, 0, none⟩) (by simp; omega) _⟩
theorem PlQ.len (h : PlQ stop w A C R ua uc qs zs W) : qs.length = zs.length := by rw [← h.z, List.length_map]
end
theorem marks_q {T E : TypeId} {β : Type} {enc : β → Value} {lo A C room B : Nat} {W W' : World} {qs : List (Nat × β)} {ds : List Deferred} (h : Marks B ds W) (hq : QAt T E enc lo W A C room qs) (k : Kept (· = C) W W') : Marks B ds W' := by
  obtain ⟨Ds, h1, h2, h3⟩ := h
  refine ⟨Ds, h1, h2, fun D hD => ⟨(h3 D hD).1, ?_⟩⟩
  have hd := (h3 D hD).2
  refine (k.block D (Array.getElem?_eq_some_iff.1 hd).1 (fun e => ?_)).trans hd
  obtain ⟨s, r, hc⟩ := hq.ch
  have e' : D = C := e
  rw [e'] at hd
  rw [hd] at hc
  cases hc

def frQ (g : Nat → Value) : Array Value := ((List.range 119).map g).toArray
theorem frQ_of {t : Array Value} (h : t.size = 119) : t = frQ (fun i => t.getD i undef) := by
  apply Array.ext'
  apply List.ext_getElem
  · simp [frQ, h]
  · intro i h1 h2
    simp only [frQ, List.getElem_map, List.getElem_range]
    have h1' : i < t.size := by simpa using h1
    simp [Array.getD, h1']
theorem frQ_lit (g : Nat → Value) : frQ g = #[g 0, g 1, g 2, g 3, g 4, g 5, g 6, g 7, g 8, g 9, g 10, g 11, g 12, g 13, g 14, g 15, g 16, g 17, g 18, g 19, g 20, g 21, g 22, g 23, g 24, g 25, g 26, g 27, g 28, g 29, g 30, g 31, g 32, g 33, g 34, g 35, g 36, g 37, g 38, g 39, g 40, g 41, g 42, g 43, g 44, g 45, g 46, g 47, g 48, g 49, g 50, g 51, g 52, g 53, g 54, g 55, g 56, g 57, g 58, g 59, g 60, g 61, g 62, g 63, g 64, g 65, g 66, g 67, g 68, g 69, g 70, g 71, g 72, g 73, g 74, g 75, g 76, g 77, g 78, g 79, g 80, g 81, g 82, g 83, g 84, g 85, g 86, g 87, g 88, g 89, g 90, g 91, g 92, g 93, g 94, g 95, g 96, g 97, g 98, g 99, g 100, g 101, g 102, g 103, g 104, g 105, g 106, g 107, g 108, g 109, g 110, g 111, g 112, g 113, g 114, g 115, g 116, g 117, g 118] := by kernel_rfl
structure FxQ (R A : Nat) (ua : Option Addr) (ul uc : Nat) (a : Option Addr) (len cap : Nat) (n0 j : Nat) (g : Nat → Value) : Prop where
  s0 : g 0 = .int .i64 (R : Nat)
  s5 : g 5 = .pointer (some ⟨n0, 0, none⟩)
  s7 : g 7 = .pointer (some ⟨A, 0, none⟩)
  s9 : g 9 = .slice ua ul uc
  s46 : g 46 = .slice a len cap
  s47 : g 47 = .int .i64 (len : Nat)
  s48 : g 48 = .int .i64 (j : Nat)

def RelQ (stop : Int) (R A C : Nat) (a : Option Addr) (len cap : Nat) (w : World) (a' : Act) (V : World) : Prop :=
  ∃ (j : Nat) (ds : List Deferred) (g : Nat → Value) (ua : Option Addr) (uc : Nat) (qs : List (Nat × Int)) (zs : List Int), a' = { tmps := frQ g, defers := ds } ∧ FxQ R A ua zs.length uc a len cap w.heap.size j g ∧ j ≤ len ∧ PlQ stop w A C R ua uc qs zs V ∧ Marks w.heap.size ds V
theorem RelQ.mk {stop : Int} {R A C : Nat} {a : Option Addr} {len cap : Nat} {w V : World} {t : Array Value} {ds : List Deferred} {ua : Option Addr} {uc : Nat} {qs : List (Nat × Int)} {zs : List Int} (j : Nat) (h : t.size = 119) (hf : FxQ R A ua zs.length uc a len cap w.heap.size j (fun i => t.getD i undef)) (hj : j ≤ len) (hP : PlQ stop w A C R ua uc qs zs V) (hM : Marks w.heap.size ds V) : RelQ stop R A C a len cap w { tmps := t, defers := ds } V :=
  ⟨j, ds, fun i => t.getD i undef, ua, uc, qs, zs, by rw [← frQ_of h], hf, hj, hP, hM⟩

set_option maxRecDepth 100000 in
set_option maxHeartbeats 2000000 in
theorem walkQueuePlays_n (room : Int) (a : Option Addr) (len cap : Nat) (stop : Int) (w : World) (h : room < 1 ∨ 4096 < room) : Calls Try.prog 3 #[.int .i64 room, .slice a len cap, .int .i64 stop] w fun e w' => e = .returned (.bool true) ∧ Below w.heap.size w w' := by
  have HB0 := Lib.hid (below_alloc w (Obj.cells #[.int .i64 stop] 3))
  have HS0 := Lib.hid (Blk.new w 3 #[.int .i64 stop])
  refine calls_marks Try.func3 rfl ?_
  simp only [Try.ntmps3, List.size_toArray, List.length_cons, List.length_nil, Nat.reduceAdd, Nat.reduceSub, Array.replicate_succ, Array.replicate_zero, List.push_toArray, List.append_toArray, List.nil_append, List.cons_append]
  go_upto_region 1 with fail
  generalize w.alloc (Obj.cells #[.int .i64 stop] 3) = w0 at *
  go_wp2_with fail
  refine (anchor9_any _).mono ?_
  rintro e w1 ⟨rfl, hb⟩
  have HS1 := Lib.hid (HS0.out.below hb HS0.out.lt)
  have HB1 := Lib.hid (bthen' HB0.out hb)
  clear HS0 HB0 hb
  go_wp2_with fail
  refine (qnewI_no room _ h).mono ?_
  rintro e w2 ⟨rfl, rfl⟩
  rcases h with h | h
  · go_wp2_with fail
    exact leave_marks (Marks.nil w.heap.size _) (fun w' hw' => ⟨_, results_tmp rfl _ _ _, rfl, (HB1.out).trans hw'.bel⟩)
  · have h' : ¬ room < 1 := by omega
    go_wp2_with fail
    exact leave_marks (Marks.nil w.heap.size _) (fun w' hw' => ⟨_, results_tmp rfl _ _ _, rfl, (HB1.out).trans hw'.bel⟩)

set_option maxRecDepth 100000 in
set_option maxHeartbeats 2000000 in
theorem walkQueuePlays_l (R : Nat) (a : Option Addr) (len cap : Nat) (stop : Int) (w : World) (h1 : 1 ≤ R) (h2 : R ≤ 4096) (hl : 80 < len) : Calls Try.prog 3 #[.int .i64 (R : Nat), .slice a len cap, .int .i64 stop] w fun e w' => e = .returned (.bool true) ∧ Below w.heap.size w w' := by
  have HB0 := Lib.hid (below_alloc w (Obj.cells #[.int .i64 stop] 3))
  have HS0 := Lib.hid (Blk.new w 3 #[.int .i64 stop])
  refine calls_marks Try.func3 rfl ?_
  simp only [Try.ntmps3, List.size_toArray, List.length_cons, List.length_nil, Nat.reduceAdd, Nat.reduceSub, Array.replicate_succ, Array.replicate_zero, List.push_toArray, List.append_toArray, List.nil_append, List.cons_append]
  go_upto_region 1 with fail
  generalize w.alloc (Obj.cells #[.int .i64 stop] 3) = w0 at *
  go_wp2_with fail
  refine (anchor9_any _).mono ?_
  rintro e w1 ⟨rfl, hb⟩
  have HS1 := Lib.hid (HS0.out.below hb HS0.out.lt)
  have HB1 := Lib.hid (bthen' HB0.out hb)
  clear HS0 HB0 hb
  go_wp2_with fail
  refine (qnewI_ok R _ h1 h2).mono ?_
  rintro e w2 ⟨rfl, hb2, hq2⟩
  have hn1 : ¬ (R : Int) < 1 := by omega
  have hn2 : ¬ (4096 : Int) < (R : Int) := by omega
  have HB2 := Lib.hid (bthen' HB1.out hb2)
  have HS2 := Lib.hid (HS1.out.below hb2 HS1.out.lt)
  have HQ2 := Lib.hid (hq2.lo_le (lo' := w.heap.size + 1) HS1.out.lt)
  clear hb2 hq2 HB1 HS1
  have dl : decide ((80 : Int) < (len : Int)) = true := decide_eq_true (by omega)
  go_wp2_with fail
  exact leave_marks (Marks.nil w.heap.size _) (fun w' hw' => ⟨_, results_tmp rfl _ _ _, rfl, (HB2.out).trans hw'.bel⟩)

set_option maxRecDepth 100000 in
set_option maxHeartbeats 8000000 in
theorem walkQueuePlays_t (R : Nat) (a : Option Addr) (len cap : Nat) (f : Nat → OpQ) (stop : Int) (w : World) (h1 : 1 ≤ R) (h2 : R ≤ 4096) (hops : RowOpQ w a len cap f) (hl : len ≤ 80) : Calls Try.prog 3 #[.int .i64 (R : Nat), .slice a len cap, .int .i64 stop] w fun e w' => e = .returned (.bool true) ∧ Below w.heap.size w w' := by
  have Hops := Lib.hid hops
  have hcap : len ≤ cap ∧ cap ≤ 9223372036854775807 := by have := hops.max; unfold maxLen at this; exact ⟨hops.le, this⟩
  obtain ⟨hc1, hc2⟩ := hcap
  clear hops
  have HB0 := Lib.hid (below_alloc w (Obj.cells #[.int .i64 stop] 3))
  have HS0 := Lib.hid (Blk.new w 3 #[.int .i64 stop])
  refine calls_marks Try.func3 rfl ?_
  simp only [Try.ntmps3, List.size_toArray, List.length_cons, List.length_nil, Nat.reduceAdd, Nat.reduceSub, Array.replicate_succ, Array.replicate_zero, List.push_toArray, List.append_toArray, List.nil_append, List.cons_append]
  go_upto_region 1 with fail
  generalize w.alloc (Obj.cells #[.int .i64 stop] 3) = w0 at *
  go_wp2_with fail
  refine (anchor9_any _).mono ?_
  rintro e w1 ⟨rfl, hb⟩
  have HS1 := Lib.hid (HS0.out.below hb HS0.out.lt)
  have HB1 := Lib.hid (bthen' HB0.out hb)
  clear HS0 HB0 hb
  go_wp2_with fail
  refine (qnewI_ok R _ h1 h2).mono ?_
  rintro e w2 ⟨rfl, hb2, hq2⟩
  have hn1 : ¬ (R : Int) < 1 := by omega
  have hn2 : ¬ (4096 : Int) < (R : Int) := by omega
  have HB2 := Lib.hid (bthen' HB1.out hb2)
  have HS2 := Lib.hid (HS1.out.below hb2 HS1.out.lt)
  have HQ2 := Lib.hid (hq2.lo_le (lo' := w.heap.size + 1) HS1.out.lt)
  clear hb2 hq2 HB1 HS1
  have dl : decide ((80 : Int) < (len : Int)) = false := decide_eq_false (by omega)
  go_upto_region 11 with fail
  have HP0 : Hid (PlQ stop w (w1.heap.size + 1) w1.heap.size R none 0 [] [] w2) := Lib.hid ⟨HS2.out, HQ2.out, RowI.nilr _, rfl, HB2.out⟩
  clear dl HS2 HQ2 HB2
  generalize w1.heap.size + 1 = A at *
  generalize w1.heap.size = C at *
  go_wp2_with fail
  refine wp_loop (RelQ stop R A C a len cap w) (fun a' _ => (len - (intOf (a'.tmps.getD 48 undef)).toNat)) ?start ?round
  case start =>
    exact RelQ.mk 0 rfl ⟨rfl, rfl, rfl, rfl, rfl, rfl, rfl⟩ (Nat.zero_le _) HP0.out (Marks.nil _ _)
  case round =>
    clear HP0
    rintro a' V ⟨j, ds, g, ua, uc, qs, zs, rfl, hfx, hj, hP, hM⟩
    rw [frQ_lit g]
    simp only [hfx.s0, hfx.s5, hfx.s7, hfx.s9, hfx.s46, hfx.s47, hfx.s48]
    clear hfx
    have HP := Lib.hid hP
    have HM := Lib.hid hM
    have hz4 : zs.length ≤ R := by rw [← hP.len]; exact hP.q.len
    have hu1 : zs.length ≤ uc := hP.row.le
    have hu2 : uc ≤ 9223372036854775807 := by have := hP.row.max; unfold maxLen at this; exact this
    clear hP hM
    by_cases hlt : j < len
    case neg =>
      have hje : j = len := by omega
      clear hje
      go_wp2_with fail
      exact leave_marks HM.out (fun w' hw' => ⟨_, results_tmp rfl _ _ _, rfl, (HP.out.B).trans hw'.bel⟩)
    obtain ⟨b, off, rfl, hat⟩ := (Hops.out.below HP.out.B).cells (by omega)
    obtain ⟨k0, k1⟩ := hat j hlt
    clear hat
    generalize f j = o at *
    obtain ⟨ok, ox⟩ := o
    dsimp only at k0 k1
    go_upto_region 14 with fail
    have hbo := below_alloc V (Obj.cells #[.int .i64 ok, .int .i64 ox] 30)
    have HP1 := Lib.hid (HP.out.below hbo)
    have HM1 := Lib.hid (HM.out.mono (keepsOthers_below hbo))
    have HO1 := Lib.hid (Blk.new V 30 #[.int .i64 ok, .int .i64 ox])
    clear k0 k1 hbo HP HM
    generalize V.alloc (Obj.cells #[.int .i64 ok, .int .i64 ox] 30) = W1 at *
    generalize V.heap.size = ob at *
    have c0 : W1.cell? ⟨ob, 0, none⟩ = some (.int .i64 ok) := (HO1.out.cell 0).trans rfl
    have c1 : W1.cell? ⟨ob, 1, none⟩ = some (.int .i64 ox) := (HO1.out.cell 1).trans rfl
    by_cases hk1 : ok = 1
    · subst hk1
      by_cases hroom : zs.length < R
      · have hcall := rput_room R ox HP1.out.row hroom h2
        have Hzz : Hid (∀ p : Nat, List.map (·.2) (qs ++ [(p, ox)] : List (Nat × Int)) = zs ++ [ox]) := Lib.hid (fun p => by rw [List.map_append, HP1.out.z]; rfl)
        generalize zs ++ [ox] = zs2 at hcall Hzz
        go_wp2_with fail
        refine hcall.mono ?_
        rintro e W2 ⟨ua2, uc2, rfl, hr2, hb2⟩
        have HP2 := Lib.hid (HP1.out.below hb2)
        have HM2 := Lib.hid (HM1.out.mono (keepsOthers_below hb2))
        have HR2 := Lib.hid hr2
        have c1' : W2.cell? ⟨ob, 1, none⟩ = some (.int .i64 ox) := ((HO1.out.below hb2 HO1.out.lt).cell 1).trans rfl
        clear hr2 hb2 HP1 HM1 hcall c0 c1 HO1
        go_wp2_with fail
        refine (qputI_room ox HP2.out.q (by rw [HP2.out.len]; exact hroom)).mono ?_
        rintro e W3 ⟨rfl, p, hq3, hk3, -⟩
        have HP3 := Lib.hid (HP2.out.step hk3 hq3 (HR2.out.q HP2.out.q hk3) (Hzz.out p))
        have HM3 := Lib.hid (marks_q HM2.out HP2.out.q hk3)
        clear hq3 hk3 HP2 HM2 HR2 c1' Hzz
        -- HP3, HM3: both were moved; the things are gone through as far as stop
        have hl3 : (qs ++ [(p, ox)]).length ≤ 4096 := Nat.le_trans HP3.out.q.len HP3.out.q.room
        have HO4 := Lib.hid HP3.out.q.old
        have HR4 := Lib.hid HP3.out.row.lt
        have hnb := HP3.out.S.lt
        have HP4 := Lib.hid (HP3.out.below (below_alloc W3 (Obj.cells #[.int .i64 0] 3)))
        have HM4 := Lib.hid (HM3.out.mono (keepsOthers_below (below_alloc W3 (Obj.cells #[.int .i64 0] 3))))
        have HN4 := Lib.hid (Blk.new W3 3 #[.int .i64 0])
        clear HP3 HM3
        go_upto_region 32 with fail
        generalize W3.alloc (Obj.cells #[.int .i64 0] 3) = V0 at *
        generalize W3.heap.size = nb at *
        go_wp2_with fail
        refine (qall_any _).mono ?_
        rintro e w5 ⟨rfl, rfl⟩
        have hb5 := below_alloc V0 (Obj.cells #[.pointer (some ⟨A, 0, none⟩)] 24)
        have hB := Blk.new V0 24 #[.pointer (some ⟨A, 0, none⟩)]
        have hP5 := HP4.out.below hb5
        have hM5 := HM4.out.mono (keepsOthers_below hb5)
        have hN5 := HN4.out.below hb5 HN4.out.lt
        clear HP4 HM4 HN4 hb5
        go_wp2_with fail
        generalize V0.heap.size = bp at *
        generalize V0.alloc (Obj.cells #[.pointer (some ⟨A, 0, none⟩)] 24) = V5 at *
        refine wp_rangeT (N := (qs ++ [(p, ox)]).length) (w0 := V5) rfl (enters_of Try.func27 (by kernel_rfl) rfl) (qall_gives (S := (· = nb)) hP5.q hB (fun g e => by have := hN5.lt; omega) (fun x hx e => by have := HO4.out.b x hx; omega)) (fun h k => h.trans k) (fun W l o o' _ h hc _ => KpS.put W l o o' h hc) (Below.refl _ _) (fun _ => rfl)
          (fun pre W => PlQ stop w A C R ua2 uc2 (qs ++ [(p, ox)]) zs2 W ∧ (Marks w.heap.size ds W ∧ V5.heap.size ≤ W.heap.size) ∧ Blk W nb 3 #[.int .i64 (pre.length : Int)]) (fun c _ W => c = .exit 3 ∧ PlQ stop w A C R ua2 uc2 (qs ++ [(p, ox)]) zs2 W ∧ (Marks w.heap.size ds W ∧ V5.heap.size ≤ W.heap.size))
          (OwnFrom.and (PlQ.ownF HO4.out (Nat.le_of_lt hN5.lt) hP5.B.size) (OwnFrom.and (ownFrom_marks hM5 (Nat.le_refl _)) (Own.from (blk_own _ _ (fun pre : List (Nat × Int) => #[.int .i64 (pre.length : Int)])) _))) (fun c => OwnFrom.and (ownFrom_pure' (fun _ : List (Nat × Int) => c = .exit 3)) (OwnFrom.and (PlQ.ownF HO4.out (Nat.le_of_lt hN5.lt) hP5.B.size) (ownFrom_marks hM5 (Nat.le_refl _))))
          ⟨hP5, ⟨hM5, Nat.le_refl _⟩, by simpa using hN5⟩ (fun s X Y h t => ⟨h.1.tn t, ⟨marks_q h.2.1.1 h.1.q t.k, Nat.le_trans h.2.1.2 t.k.size⟩, h.1.q.far t.k h.2.2⟩) (fun X Y k o t hk h => (t.k.block k (Array.getElem?_eq_some_iff.1 h).1 (fun e => by have := hP5.q.ltC; omega)).trans h) ?aA ?assignA ?bodyA ?doneA ?stopA
        case assignA =>
          intro l x W K hK
          unfold encP
          gi_wp2
          exact hK
        case bodyA =>
          rintro l pre x W ⟨hI, ⟨hMk, hsz⟩, hNb⟩ hpl
          have cN := blk_one hNb
          have fN := hNb.frozen 0
          have cS := blk_one hI.S
          have hl64 : (pre.length : Int) < 4096 := by omega
          have HPs := Lib.hid (hI.set HO4.out HR4.out hnb (.int .i64 ((pre.length : Int) + 1)))
          have HNs := Lib.hid (blk_set1 hNb (.int .i64 ((pre.length : Int) + 1)))
          have HMs := Lib.hid (hMk.mono (KeepsOthers.setCell W ⟨nb, 0, none⟩ (.int .i64 ((pre.length : Int) + 1))))
          have HSz : Hid (V5.heap.size ≤ (W.setCell ⟨nb, 0, none⟩ (.int .i64 ((pre.length : Int) + 1))).heap.size) := Lib.hid (Nat.le_trans hsz (KeepsOthers.setCell W ⟨nb, 0, none⟩ (.int .i64 ((pre.length : Int) + 1))).size)
          have HKp := Lib.hid (KpS.set (S := (· = nb)) (W := W) (p := ⟨nb, 0, none⟩) (.int .i64 ((pre.length : Int) + 1)) rfl)
          clear hI hNb hMk hsz hP5 hM5 hN5 hB
          by_cases hst : (pre.length : Int) + 1 = stop
          · have hst' : ((pre.length : Int) + 1 == stop) = true := by simpa using hst
            clear hst
            gi_wp2
            exact ⟨KeepsOthers.setCell _ _ _, rfl, HPs.out, HMs.out, HSz.out⟩
          · have hst' : ((pre.length : Int) + 1 == stop) = false := by simpa using hst
            clear hst
            gi_wp2
            exact ⟨KeepsOthers.setCell _ _ _, HKp.out, HPs.out, ⟨HMs.out, HSz.out⟩, by rw [List.length_append]; exact HNs.out⟩
        case stopA =>
          rintro D c pre W hD hp ⟨rfl, hI, hMk, hsz⟩ hd
          have HMd := Lib.hid (Marks.cons hM5 hP5.B.size hD hd hMk)
          have HPd := Lib.hid hI
          clear hI hMk hsz hd hP5 hM5 hN5 hB
          generalize ({ target := .collected D, args := #[] } :: ds : List Deferred) = ds2 at *
          go_wp2_with fail
          refine (qsame HPd.out.q HPd.out.z HPd.out.row).mono ?_
          rintro e W7 ⟨rfl, hq7, hk7⟩
          have HP7 := Lib.hid (HPd.out.step hk7 hq7 (HPd.out.row.q HPd.out.q hk7) HPd.out.z)
          have HM7 := Lib.hid (marks_q HMd.out HPd.out.q hk7)
          clear hq7 hk7 HPd HMd
          go_wp2_with fail
          exact ⟨RelQ.mk (j + 1) rfl ⟨rfl, rfl, rfl, rfl, rfl, rfl, (show Value.int .i64 ((j : Int) + 1) = .int .i64 ((j + 1 : Nat) : Int) by go_num)⟩ (by omega) HP7.out HM7.out, by simp [intOf]; omega⟩
        case doneA =>
          rintro D ys W hD hys ⟨hI, ⟨hMk, hsz⟩, hNb⟩ hd
          have HMd := Lib.hid (Marks.cons hM5 hP5.B.size hD hd hMk)
          clear hys hNb
          have HPd := Lib.hid hI
          clear hI hMk hsz hd hP5 hM5 hN5 hB
          generalize ({ target := .collected D, args := #[] } :: ds : List Deferred) = ds2 at *
          go_wp2_with fail
          refine (qsame HPd.out.q HPd.out.z HPd.out.row).mono ?_
          rintro e W7 ⟨rfl, hq7, hk7⟩
          have HP7 := Lib.hid (HPd.out.step hk7 hq7 (HPd.out.row.q HPd.out.q hk7) HPd.out.z)
          have HM7 := Lib.hid (marks_q HMd.out HPd.out.q hk7)
          clear hq7 hk7 HPd HMd
          go_wp2_with fail
          exact ⟨RelQ.mk (j + 1) rfl ⟨rfl, rfl, rfl, rfl, rfl, rfl, (show Value.int .i64 ((j : Int) + 1) = .int .i64 ((j + 1 : Nat) : Int) by go_num)⟩ (by omega) HP7.out HM7.out, by simp [intOf]; omega⟩
      · have hfull : R ≤ zs.length := by omega
        go_wp2_with fail
        refine (rput_full R ox HP1.out.row hfull).mono ?_
        rintro e W2 ⟨rfl, rfl⟩
        go_wp2_with fail
        refine (qputI_full ox HP1.out.q (by rw [HP1.out.len]; omega)).mono ?_
        rintro e W3 ⟨rfl, hb3⟩
        have HP3 := Lib.hid (HP1.out.below hb3)
        have HM3 := Lib.hid (HM1.out.mono (keepsOthers_below hb3))
        clear hb3 HP1 HM1 HO1 c0 c1
        -- HP3, HM3: both were moved; the things are gone through as far as stop
        have hl3 : qs.length ≤ 4096 := Nat.le_trans HP3.out.q.len HP3.out.q.room
        have HO4 := Lib.hid HP3.out.q.old
        have HR4 := Lib.hid HP3.out.row.lt
        have hnb := HP3.out.S.lt
        have HP4 := Lib.hid (HP3.out.below (below_alloc W3 (Obj.cells #[.int .i64 0] 3)))
        have HM4 := Lib.hid (HM3.out.mono (keepsOthers_below (below_alloc W3 (Obj.cells #[.int .i64 0] 3))))
        have HN4 := Lib.hid (Blk.new W3 3 #[.int .i64 0])
        clear HP3 HM3
        go_upto_region 32 with fail
        generalize W3.alloc (Obj.cells #[.int .i64 0] 3) = V0 at *
        generalize W3.heap.size = nb at *
        go_wp2_with fail
        refine (qall_any _).mono ?_
        rintro e w5 ⟨rfl, rfl⟩
        have hb5 := below_alloc V0 (Obj.cells #[.pointer (some ⟨A, 0, none⟩)] 24)
        have hB := Blk.new V0 24 #[.pointer (some ⟨A, 0, none⟩)]
        have hP5 := HP4.out.below hb5
        have hM5 := HM4.out.mono (keepsOthers_below hb5)
        have hN5 := HN4.out.below hb5 HN4.out.lt
        clear HP4 HM4 HN4 hb5
        go_wp2_with fail
        generalize V0.heap.size = bp at *
        generalize V0.alloc (Obj.cells #[.pointer (some ⟨A, 0, none⟩)] 24) = V5 at *
        refine wp_rangeT (N := qs.length) (w0 := V5) rfl (enters_of Try.func27 (by kernel_rfl) rfl) (qall_gives (S := (· = nb)) hP5.q hB (fun g e => by have := hN5.lt; omega) (fun x hx e => by have := HO4.out.b x hx; omega)) (fun h k => h.trans k) (fun W l o o' _ h hc _ => KpS.put W l o o' h hc) (Below.refl _ _) (fun _ => rfl)
          (fun pre W => PlQ stop w A C R ua uc qs zs W ∧ (Marks w.heap.size ds W ∧ V5.heap.size ≤ W.heap.size) ∧ Blk W nb 3 #[.int .i64 (pre.length : Int)]) (fun c _ W => c = .exit 3 ∧ PlQ stop w A C R ua uc qs zs W ∧ (Marks w.heap.size ds W ∧ V5.heap.size ≤ W.heap.size))
          (OwnFrom.and (PlQ.ownF HO4.out (Nat.le_of_lt hN5.lt) hP5.B.size) (OwnFrom.and (ownFrom_marks hM5 (Nat.le_refl _)) (Own.from (blk_own _ _ (fun pre : List (Nat × Int) => #[.int .i64 (pre.length : Int)])) _))) (fun c => OwnFrom.and (ownFrom_pure' (fun _ : List (Nat × Int) => c = .exit 3)) (OwnFrom.and (PlQ.ownF HO4.out (Nat.le_of_lt hN5.lt) hP5.B.size) (ownFrom_marks hM5 (Nat.le_refl _))))
          ⟨hP5, ⟨hM5, Nat.le_refl _⟩, by simpa using hN5⟩ (fun s X Y h t => ⟨h.1.tn t, ⟨marks_q h.2.1.1 h.1.q t.k, Nat.le_trans h.2.1.2 t.k.size⟩, h.1.q.far t.k h.2.2⟩) (fun X Y k o t hk h => (t.k.block k (Array.getElem?_eq_some_iff.1 h).1 (fun e => by have := hP5.q.ltC; omega)).trans h) ?aB ?assignB ?bodyB ?doneB ?stopB
        case assignB =>
          intro l x W K hK
          unfold encP
          gi_wp2
          exact hK
        case bodyB =>
          rintro l pre x W ⟨hI, ⟨hMk, hsz⟩, hNb⟩ hpl
          have cN := blk_one hNb
          have fN := hNb.frozen 0
          have cS := blk_one hI.S
          have hl64 : (pre.length : Int) < 4096 := by omega
          have HPs := Lib.hid (hI.set HO4.out HR4.out hnb (.int .i64 ((pre.length : Int) + 1)))
          have HNs := Lib.hid (blk_set1 hNb (.int .i64 ((pre.length : Int) + 1)))
          have HMs := Lib.hid (hMk.mono (KeepsOthers.setCell W ⟨nb, 0, none⟩ (.int .i64 ((pre.length : Int) + 1))))
          have HSz : Hid (V5.heap.size ≤ (W.setCell ⟨nb, 0, none⟩ (.int .i64 ((pre.length : Int) + 1))).heap.size) := Lib.hid (Nat.le_trans hsz (KeepsOthers.setCell W ⟨nb, 0, none⟩ (.int .i64 ((pre.length : Int) + 1))).size)
          have HKp := Lib.hid (KpS.set (S := (· = nb)) (W := W) (p := ⟨nb, 0, none⟩) (.int .i64 ((pre.length : Int) + 1)) rfl)
          clear hI hNb hMk hsz hP5 hM5 hN5 hB
          by_cases hst : (pre.length : Int) + 1 = stop
          · have hst' : ((pre.length : Int) + 1 == stop) = true := by simpa using hst
            clear hst
            gi_wp2
            exact ⟨KeepsOthers.setCell _ _ _, rfl, HPs.out, HMs.out, HSz.out⟩
          · have hst' : ((pre.length : Int) + 1 == stop) = false := by simpa using hst
            clear hst
            gi_wp2
            exact ⟨KeepsOthers.setCell _ _ _, HKp.out, HPs.out, ⟨HMs.out, HSz.out⟩, by rw [List.length_append]; exact HNs.out⟩
        case stopB =>
          rintro D c pre W hD hp ⟨rfl, hI, hMk, hsz⟩ hd
          have HMd := Lib.hid (Marks.cons hM5 hP5.B.size hD hd hMk)
          have HPd := Lib.hid hI
          clear hI hMk hsz hd hP5 hM5 hN5 hB
          generalize ({ target := .collected D, args := #[] } :: ds : List Deferred) = ds2 at *
          go_wp2_with fail
          refine (qsame HPd.out.q HPd.out.z HPd.out.row).mono ?_
          rintro e W7 ⟨rfl, hq7, hk7⟩
          have HP7 := Lib.hid (HPd.out.step hk7 hq7 (HPd.out.row.q HPd.out.q hk7) HPd.out.z)
          have HM7 := Lib.hid (marks_q HMd.out HPd.out.q hk7)
          clear hq7 hk7 HPd HMd
          go_wp2_with fail
          exact ⟨RelQ.mk (j + 1) rfl ⟨rfl, rfl, rfl, rfl, rfl, rfl, (show Value.int .i64 ((j : Int) + 1) = .int .i64 ((j + 1 : Nat) : Int) by go_num)⟩ (by omega) HP7.out HM7.out, by simp [intOf]; omega⟩
        case doneB =>
          rintro D ys W hD hys ⟨hI, ⟨hMk, hsz⟩, hNb⟩ hd
          have HMd := Lib.hid (Marks.cons hM5 hP5.B.size hD hd hMk)
          clear hys hNb
          have HPd := Lib.hid hI
          clear hI hMk hsz hd hP5 hM5 hN5 hB
          generalize ({ target := .collected D, args := #[] } :: ds : List Deferred) = ds2 at *
          go_wp2_with fail
          refine (qsame HPd.out.q HPd.out.z HPd.out.row).mono ?_
          rintro e W7 ⟨rfl, hq7, hk7⟩
          have HP7 := Lib.hid (HPd.out.step hk7 hq7 (HPd.out.row.q HPd.out.q hk7) HPd.out.z)
          have HM7 := Lib.hid (marks_q HMd.out HPd.out.q hk7)
          clear hq7 hk7 HPd HMd
          go_wp2_with fail
          exact ⟨RelQ.mk (j + 1) rfl ⟨rfl, rfl, rfl, rfl, rfl, rfl, (show Value.int .i64 ((j : Int) + 1) = .int .i64 ((j + 1 : Nat) : Int) by go_num)⟩ (by omega) HP7.out HM7.out, by simp [intOf]; omega⟩
    · have e1 : (ok == 1) = false := by simpa using hk1
      have e1' : decide (ok = 1) = false := decide_eq_false hk1
      by_cases hk2 : ok = 2
      · subst hk2
        cases qs with
        | nil =>
          have hzn : zs = [] := by have := HP1.out.z; simpa using this.symm
          subst hzn
          clear e1 e1'
          go_wp2_with fail
          refine (rtake_none (a := ua) (cap := uc)).mono ?_
          rintro e W2 ⟨rfl, rfl⟩
          go_wp2_with fail
          refine (qtakeI_none HP1.out.q).mono ?_
          rintro e W3 ⟨rfl, rfl⟩
          have HP3 := HP1
          have HM3 := HM1
          clear HP1 HM1 HO1 c0 c1
          obtain ⟨zs3, hzs3⟩ : ∃ z : List Int, z = [] := ⟨_, rfl⟩
          obtain ⟨qs3, hqs3⟩ : ∃ z : List (Nat × Int), z = [] := ⟨_, rfl⟩
          -- HP3, HM3: both were moved; the things are gone through as far as stop
          have hl3 : ([] : List (Nat × Int)).length ≤ 4096 := Nat.le_trans HP3.out.q.len HP3.out.q.room
          have HO4 := Lib.hid HP3.out.q.old
          have HR4 := Lib.hid HP3.out.row.lt
          have hnb := HP3.out.S.lt
          have HP4 := Lib.hid (HP3.out.below (below_alloc W1 (Obj.cells #[.int .i64 0] 3)))
          have HM4 := Lib.hid (HM3.out.mono (keepsOthers_below (below_alloc W1 (Obj.cells #[.int .i64 0] 3))))
          have HN4 := Lib.hid (Blk.new W1 3 #[.int .i64 0])
          clear HP3 HM3
          go_upto_region 32 with fail
          generalize W1.alloc (Obj.cells #[.int .i64 0] 3) = V0 at *
          generalize W1.heap.size = nb at *
          go_wp2_with fail
          refine (qall_any _).mono ?_
          rintro e w5 ⟨rfl, rfl⟩
          have hb5 := below_alloc V0 (Obj.cells #[.pointer (some ⟨A, 0, none⟩)] 24)
          have hB := Blk.new V0 24 #[.pointer (some ⟨A, 0, none⟩)]
          have hP5 := HP4.out.below hb5
          have hM5 := HM4.out.mono (keepsOthers_below hb5)
          have hN5 := HN4.out.below hb5 HN4.out.lt
          clear HP4 HM4 HN4 hb5
          go_wp2_with fail
          generalize V0.heap.size = bp at *
          generalize V0.alloc (Obj.cells #[.pointer (some ⟨A, 0, none⟩)] 24) = V5 at *
          refine wp_rangeT (N := ([] : List (Nat × Int)).length) (w0 := V5) rfl (enters_of Try.func27 (by kernel_rfl) rfl) (qall_gives (S := (· = nb)) hP5.q hB (fun g e => by have := hN5.lt; omega) (fun x hx e => by have := HO4.out.b x hx; omega)) (fun h k => h.trans k) (fun W l o o' _ h hc _ => KpS.put W l o o' h hc) (Below.refl _ _) (fun _ => rfl)
            (fun pre W => PlQ stop w A C R ua uc ([] : List (Nat × Int)) ([] : List Int) W ∧ (Marks w.heap.size ds W ∧ V5.heap.size ≤ W.heap.size) ∧ Blk W nb 3 #[.int .i64 (pre.length : Int)]) (fun c _ W => c = .exit 3 ∧ PlQ stop w A C R ua uc ([] : List (Nat × Int)) ([] : List Int) W ∧ (Marks w.heap.size ds W ∧ V5.heap.size ≤ W.heap.size))
            (OwnFrom.and (PlQ.ownF HO4.out (Nat.le_of_lt hN5.lt) hP5.B.size) (OwnFrom.and (ownFrom_marks hM5 (Nat.le_refl _)) (Own.from (blk_own _ _ (fun pre : List (Nat × Int) => #[.int .i64 (pre.length : Int)])) _))) (fun c => OwnFrom.and (ownFrom_pure' (fun _ : List (Nat × Int) => c = .exit 3)) (OwnFrom.and (PlQ.ownF HO4.out (Nat.le_of_lt hN5.lt) hP5.B.size) (ownFrom_marks hM5 (Nat.le_refl _))))
            ⟨hP5, ⟨hM5, Nat.le_refl _⟩, by simpa using hN5⟩ (fun s X Y h t => ⟨h.1.tn t, ⟨marks_q h.2.1.1 h.1.q t.k, Nat.le_trans h.2.1.2 t.k.size⟩, h.1.q.far t.k h.2.2⟩) (fun X Y k o t hk h => (t.k.block k (Array.getElem?_eq_some_iff.1 h).1 (fun e => by have := hP5.q.ltC; omega)).trans h) ?aC ?assignC ?bodyC ?doneC ?stopC
          case assignC =>
            intro l x W K hK
            unfold encP
            gi_wp2
            exact hK
          case bodyC =>
            rintro l pre x W ⟨hI, ⟨hMk, hsz⟩, hNb⟩ hpl
            have cN := blk_one hNb
            have fN := hNb.frozen 0
            have cS := blk_one hI.S
            have hl64 : (pre.length : Int) < 4096 := by omega
            have HPs := Lib.hid (hI.set HO4.out HR4.out hnb (.int .i64 ((pre.length : Int) + 1)))
            have HNs := Lib.hid (blk_set1 hNb (.int .i64 ((pre.length : Int) + 1)))
            have HMs := Lib.hid (hMk.mono (KeepsOthers.setCell W ⟨nb, 0, none⟩ (.int .i64 ((pre.length : Int) + 1))))
            have HSz : Hid (V5.heap.size ≤ (W.setCell ⟨nb, 0, none⟩ (.int .i64 ((pre.length : Int) + 1))).heap.size) := Lib.hid (Nat.le_trans hsz (KeepsOthers.setCell W ⟨nb, 0, none⟩ (.int .i64 ((pre.length : Int) + 1))).size)
            have HKp := Lib.hid (KpS.set (S := (· = nb)) (W := W) (p := ⟨nb, 0, none⟩) (.int .i64 ((pre.length : Int) + 1)) rfl)
            clear hI hNb hMk hsz hP5 hM5 hN5 hB
            by_cases hst : (pre.length : Int) + 1 = stop
            · have hst' : ((pre.length : Int) + 1 == stop) = true := by simpa using hst
              clear hst
              gi_wp2
              exact ⟨KeepsOthers.setCell _ _ _, rfl, HPs.out, HMs.out, HSz.out⟩
            · have hst' : ((pre.length : Int) + 1 == stop) = false := by simpa using hst
              clear hst
              gi_wp2
              exact ⟨KeepsOthers.setCell _ _ _, HKp.out, HPs.out, ⟨HMs.out, HSz.out⟩, by rw [List.length_append]; exact HNs.out⟩
          case stopC =>
            rintro D c pre W hD hp ⟨rfl, hI, hMk, hsz⟩ hd
            have HMd := Lib.hid (Marks.cons hM5 hP5.B.size hD hd hMk)
            have HPd := Lib.hid hI
            clear hI hMk hsz hd hP5 hM5 hN5 hB
            generalize ({ target := .collected D, args := #[] } :: ds : List Deferred) = ds2 at *
            go_wp2_with fail
            refine (qsame HPd.out.q HPd.out.z HPd.out.row).mono ?_
            rintro e W7 ⟨rfl, hq7, hk7⟩
            have HP7 := Lib.hid (HPd.out.step hk7 hq7 (HPd.out.row.q HPd.out.q hk7) HPd.out.z)
            have HM7 := Lib.hid (marks_q HMd.out HPd.out.q hk7)
            clear hq7 hk7 HPd HMd
            go_wp2_with fail
            exact ⟨RelQ.mk (j + 1) rfl ⟨rfl, rfl, rfl, rfl, rfl, rfl, (show Value.int .i64 ((j : Int) + 1) = .int .i64 ((j + 1 : Nat) : Int) by go_num)⟩ (by omega) HP7.out HM7.out, by simp [intOf]; omega⟩
          case doneC =>
            rintro D ys W hD hys ⟨hI, ⟨hMk, hsz⟩, hNb⟩ hd
            have HMd := Lib.hid (Marks.cons hM5 hP5.B.size hD hd hMk)
            clear hys hNb
            have HPd := Lib.hid hI
            clear hI hMk hsz hd hP5 hM5 hN5 hB
            generalize ({ target := .collected D, args := #[] } :: ds : List Deferred) = ds2 at *
            go_wp2_with fail
            refine (qsame HPd.out.q HPd.out.z HPd.out.row).mono ?_
            rintro e W7 ⟨rfl, hq7, hk7⟩
            have HP7 := Lib.hid (HPd.out.step hk7 hq7 (HPd.out.row.q HPd.out.q hk7) HPd.out.z)
            have HM7 := Lib.hid (marks_q HMd.out HPd.out.q hk7)
            clear hq7 hk7 HPd HMd
            go_wp2_with fail
            exact ⟨RelQ.mk (j + 1) rfl ⟨rfl, rfl, rfl, rfl, rfl, rfl, (show Value.int .i64 ((j : Int) + 1) = .int .i64 ((j + 1 : Nat) : Int) by go_num)⟩ (by omega) HP7.out HM7.out, by simp [intOf]; omega⟩
        | cons x tl =>
          obtain ⟨zl, hzl⟩ : ∃ zl, tl.map (·.2) = zl := ⟨_, rfl⟩
          have hzn : zs = x.2 :: zl := by rw [← HP1.out.z, ← hzl]; rfl
          subst hzn
          have HZl := Lib.hid hzl
          clear e1 e1' hzl
          go_wp2_with fail
          refine (rtake_some HP1.out.row).mono ?_
          rintro e W2 ⟨ua2, uc2, rfl, hr2, hb2⟩
          have HP2 := Lib.hid (HP1.out.below hb2)
          have HM2 := Lib.hid (HM1.out.mono (keepsOthers_below hb2))
          have HR2 := Lib.hid hr2
          clear hr2 hb2 HP1 HM1 c0 c1 HO1
          go_wp2_with fail
          refine (qtakeI_some HP2.out.q).mono ?_
          rintro e W3 ⟨rfl, hq3, hk3⟩
          have HP3 := Lib.hid (HP2.out.step hk3 hq3 (HR2.out.q HP2.out.q hk3) HZl.out)
          have HM3 := Lib.hid (marks_q HM2.out HP2.out.q hk3)
          clear hq3 hk3 HP2 HM2 HR2 HZl
          -- HP3, HM3: both were moved; the things are gone through as far as stop
          have hl3 : tl.length ≤ 4096 := Nat.le_trans HP3.out.q.len HP3.out.q.room
          have HO4 := Lib.hid HP3.out.q.old
          have HR4 := Lib.hid HP3.out.row.lt
          have hnb := HP3.out.S.lt
          have HP4 := Lib.hid (HP3.out.below (below_alloc W3 (Obj.cells #[.int .i64 0] 3)))
          have HM4 := Lib.hid (HM3.out.mono (keepsOthers_below (below_alloc W3 (Obj.cells #[.int .i64 0] 3))))
          have HN4 := Lib.hid (Blk.new W3 3 #[.int .i64 0])
          clear HP3 HM3
          go_upto_region 32 with fail
          generalize W3.alloc (Obj.cells #[.int .i64 0] 3) = V0 at *
          generalize W3.heap.size = nb at *
          go_wp2_with fail
          refine (qall_any _).mono ?_
          rintro e w5 ⟨rfl, rfl⟩
          have hb5 := below_alloc V0 (Obj.cells #[.pointer (some ⟨A, 0, none⟩)] 24)
          have hB := Blk.new V0 24 #[.pointer (some ⟨A, 0, none⟩)]
          have hP5 := HP4.out.below hb5
          have hM5 := HM4.out.mono (keepsOthers_below hb5)
          have hN5 := HN4.out.below hb5 HN4.out.lt
          clear HP4 HM4 HN4 hb5
          go_wp2_with fail
          generalize V0.heap.size = bp at *
          generalize V0.alloc (Obj.cells #[.pointer (some ⟨A, 0, none⟩)] 24) = V5 at *
          refine wp_rangeT (N := tl.length) (w0 := V5) rfl (enters_of Try.func27 (by kernel_rfl) rfl) (qall_gives (S := (· = nb)) hP5.q hB (fun g e => by have := hN5.lt; omega) (fun x hx e => by have := HO4.out.b x hx; omega)) (fun h k => h.trans k) (fun W l o o' _ h hc _ => KpS.put W l o o' h hc) (Below.refl _ _) (fun _ => rfl)
            (fun pre W => PlQ stop w A C R ua2 uc2 tl zl W ∧ (Marks w.heap.size ds W ∧ V5.heap.size ≤ W.heap.size) ∧ Blk W nb 3 #[.int .i64 (pre.length : Int)]) (fun c _ W => c = .exit 3 ∧ PlQ stop w A C R ua2 uc2 tl zl W ∧ (Marks w.heap.size ds W ∧ V5.heap.size ≤ W.heap.size))
            (OwnFrom.and (PlQ.ownF HO4.out (Nat.le_of_lt hN5.lt) hP5.B.size) (OwnFrom.and (ownFrom_marks hM5 (Nat.le_refl _)) (Own.from (blk_own _ _ (fun pre : List (Nat × Int) => #[.int .i64 (pre.length : Int)])) _))) (fun c => OwnFrom.and (ownFrom_pure' (fun _ : List (Nat × Int) => c = .exit 3)) (OwnFrom.and (PlQ.ownF HO4.out (Nat.le_of_lt hN5.lt) hP5.B.size) (ownFrom_marks hM5 (Nat.le_refl _))))
            ⟨hP5, ⟨hM5, Nat.le_refl _⟩, by simpa using hN5⟩ (fun s X Y h t => ⟨h.1.tn t, ⟨marks_q h.2.1.1 h.1.q t.k, Nat.le_trans h.2.1.2 t.k.size⟩, h.1.q.far t.k h.2.2⟩) (fun X Y k o t hk h => (t.k.block k (Array.getElem?_eq_some_iff.1 h).1 (fun e => by have := hP5.q.ltC; omega)).trans h) ?aD ?assignD ?bodyD ?doneD ?stopD
          case assignD =>
            intro l x W K hK
            unfold encP
            gi_wp2
            exact hK
          case bodyD =>
            rintro l pre x W ⟨hI, ⟨hMk, hsz⟩, hNb⟩ hpl
            have cN := blk_one hNb
            have fN := hNb.frozen 0
            have cS := blk_one hI.S
            have hl64 : (pre.length : Int) < 4096 := by omega
            have HPs := Lib.hid (hI.set HO4.out HR4.out hnb (.int .i64 ((pre.length : Int) + 1)))
            have HNs := Lib.hid (blk_set1 hNb (.int .i64 ((pre.length : Int) + 1)))
            have HMs := Lib.hid (hMk.mono (KeepsOthers.setCell W ⟨nb, 0, none⟩ (.int .i64 ((pre.length : Int) + 1))))
            have HSz : Hid (V5.heap.size ≤ (W.setCell ⟨nb, 0, none⟩ (.int .i64 ((pre.length : Int) + 1))).heap.size) := Lib.hid (Nat.le_trans hsz (KeepsOthers.setCell W ⟨nb, 0, none⟩ (.int .i64 ((pre.length : Int) + 1))).size)
            have HKp := Lib.hid (KpS.set (S := (· = nb)) (W := W) (p := ⟨nb, 0, none⟩) (.int .i64 ((pre.length : Int) + 1)) rfl)
            clear hI hNb hMk hsz hP5 hM5 hN5 hB
            by_cases hst : (pre.length : Int) + 1 = stop
            · have hst' : ((pre.length : Int) + 1 == stop) = true := by simpa using hst
              clear hst
              gi_wp2
              exact ⟨KeepsOthers.setCell _ _ _, rfl, HPs.out, HMs.out, HSz.out⟩
            · have hst' : ((pre.length : Int) + 1 == stop) = false := by simpa using hst
              clear hst
              gi_wp2
              exact ⟨KeepsOthers.setCell _ _ _, HKp.out, HPs.out, ⟨HMs.out, HSz.out⟩, by rw [List.length_append]; exact HNs.out⟩
          case stopD =>
            rintro D c pre W hD hp ⟨rfl, hI, hMk, hsz⟩ hd
            have HMd := Lib.hid (Marks.cons hM5 hP5.B.size hD hd hMk)
            have HPd := Lib.hid hI
            clear hI hMk hsz hd hP5 hM5 hN5 hB
            generalize ({ target := .collected D, args := #[] } :: ds : List Deferred) = ds2 at *
            go_wp2_with fail
            refine (qsame HPd.out.q HPd.out.z HPd.out.row).mono ?_
            rintro e W7 ⟨rfl, hq7, hk7⟩
            have HP7 := Lib.hid (HPd.out.step hk7 hq7 (HPd.out.row.q HPd.out.q hk7) HPd.out.z)
            have HM7 := Lib.hid (marks_q HMd.out HPd.out.q hk7)
            clear hq7 hk7 HPd HMd
            go_wp2_with fail
            exact ⟨RelQ.mk (j + 1) rfl ⟨rfl, rfl, rfl, rfl, rfl, rfl, (show Value.int .i64 ((j : Int) + 1) = .int .i64 ((j + 1 : Nat) : Int) by go_num)⟩ (by omega) HP7.out HM7.out, by simp [intOf]; omega⟩
          case doneD =>
            rintro D ys W hD hys ⟨hI, ⟨hMk, hsz⟩, hNb⟩ hd
            have HMd := Lib.hid (Marks.cons hM5 hP5.B.size hD hd hMk)
            clear hys hNb
            have HPd := Lib.hid hI
            clear hI hMk hsz hd hP5 hM5 hN5 hB
            generalize ({ target := .collected D, args := #[] } :: ds : List Deferred) = ds2 at *
            go_wp2_with fail
            refine (qsame HPd.out.q HPd.out.z HPd.out.row).mono ?_
            rintro e W7 ⟨rfl, hq7, hk7⟩
            have HP7 := Lib.hid (HPd.out.step hk7 hq7 (HPd.out.row.q HPd.out.q hk7) HPd.out.z)
            have HM7 := Lib.hid (marks_q HMd.out HPd.out.q hk7)
            clear hq7 hk7 HPd HMd
            go_wp2_with fail
            exact ⟨RelQ.mk (j + 1) rfl ⟨rfl, rfl, rfl, rfl, rfl, rfl, (show Value.int .i64 ((j : Int) + 1) = .int .i64 ((j + 1 : Nat) : Int) by go_num)⟩ (by omega) HP7.out HM7.out, by simp [intOf]; omega⟩
      · have e2 : (ok == 2) = false := by simpa using hk2
        have e2' : decide (ok = 2) = false := decide_eq_false hk2
        by_cases hk3 : ok = 3
        · subst hk3
          have hcall := reven HP1.out.row (Nat.le_trans hz4 h2)
          have hzf : (keptK evB qs qs.length).map (·.2) = zs.filter evB := by rw [keptK_all, ← HP1.out.z, List.filter_map]; rfl
          have hlf : (zs.filter evB).length ≤ zs.length := List.length_filter_le _ _
          obtain ⟨fl, hfl⟩ : ∃ fl, keptK evB qs qs.length = fl := ⟨_, rfl⟩
          rw [hfl] at hzf
          generalize zs.filter evB = zs2 at *
          have hlen : fl.length = zs2.length := by rw [← hzf, List.length_map]
          have Hlen := Lib.hid hlen
          have Hfl := Lib.hid hfl
          have Hzf := Lib.hid hzf
          clear e1 e1' e2 e2' hfl hzf hlen
          go_wp2_with fail
          refine hcall.mono ?_
          rintro e W2 ⟨ua2, uc2, rfl, hr2, hb2⟩
          have HP2 := Lib.hid (HP1.out.below hb2)
          have HM2 := Lib.hid (HM1.out.mono (keepsOthers_below hb2))
          have hw1 : zs2.length ≤ uc2 := hr2.le
          have hw2 : uc2 ≤ 9223372036854775807 := by have := hr2.max; unfold maxLen at this; exact this
          have HR2 := Lib.hid hr2
          clear hr2 hb2 HP1 HM1 c0 c1 HO1 hcall
          go_wp2_with fail
          have hkeep := qkeep (f := evB) (fun z w => qtells_even z w) Hfl.out HP2.out.q
          rw [Hlen.out, HP2.out.len] at hkeep
          refine hkeep.mono ?_
          rintro e W3 ⟨rfl, hq3, hk3⟩
          have HP3 := Lib.hid (HP2.out.step hk3 hq3 (HR2.out.q HP2.out.q hk3) Hzf.out)
          have HM3 := Lib.hid (marks_q HM2.out HP2.out.q hk3)
          clear hq3 hk3 HP2 HM2 HR2 Hzf Hfl Hlen hkeep
          -- HP3, HM3: both were moved; the things are gone through as far as stop
          have hl3 : fl.length ≤ 4096 := Nat.le_trans HP3.out.q.len HP3.out.q.room
          have HO4 := Lib.hid HP3.out.q.old
          have HR4 := Lib.hid HP3.out.row.lt
          have hnb := HP3.out.S.lt
          have HP4 := Lib.hid (HP3.out.below (below_alloc W3 (Obj.cells #[.int .i64 0] 3)))
          have HM4 := Lib.hid (HM3.out.mono (keepsOthers_below (below_alloc W3 (Obj.cells #[.int .i64 0] 3))))
          have HN4 := Lib.hid (Blk.new W3 3 #[.int .i64 0])
          clear HP3 HM3
          go_upto_region 32 with fail
          generalize W3.alloc (Obj.cells #[.int .i64 0] 3) = V0 at *
          generalize W3.heap.size = nb at *
          go_wp2_with fail
          refine (qall_any _).mono ?_
          rintro e w5 ⟨rfl, rfl⟩
          have hb5 := below_alloc V0 (Obj.cells #[.pointer (some ⟨A, 0, none⟩)] 24)
          have hB := Blk.new V0 24 #[.pointer (some ⟨A, 0, none⟩)]
          have hP5 := HP4.out.below hb5
          have hM5 := HM4.out.mono (keepsOthers_below hb5)
          have hN5 := HN4.out.below hb5 HN4.out.lt
          clear HP4 HM4 HN4 hb5
          go_wp2_with fail
          generalize V0.heap.size = bp at *
          generalize V0.alloc (Obj.cells #[.pointer (some ⟨A, 0, none⟩)] 24) = V5 at *
          refine wp_rangeT (N := fl.length) (w0 := V5) rfl (enters_of Try.func27 (by kernel_rfl) rfl) (qall_gives (S := (· = nb)) hP5.q hB (fun g e => by have := hN5.lt; omega) (fun x hx e => by have := HO4.out.b x hx; omega)) (fun h k => h.trans k) (fun W l o o' _ h hc _ => KpS.put W l o o' h hc) (Below.refl _ _) (fun _ => rfl)
            (fun pre W => PlQ stop w A C R ua2 uc2 fl zs2 W ∧ (Marks w.heap.size ds W ∧ V5.heap.size ≤ W.heap.size) ∧ Blk W nb 3 #[.int .i64 (pre.length : Int)]) (fun c _ W => c = .exit 3 ∧ PlQ stop w A C R ua2 uc2 fl zs2 W ∧ (Marks w.heap.size ds W ∧ V5.heap.size ≤ W.heap.size))
            (OwnFrom.and (PlQ.ownF HO4.out (Nat.le_of_lt hN5.lt) hP5.B.size) (OwnFrom.and (ownFrom_marks hM5 (Nat.le_refl _)) (Own.from (blk_own _ _ (fun pre : List (Nat × Int) => #[.int .i64 (pre.length : Int)])) _))) (fun c => OwnFrom.and (ownFrom_pure' (fun _ : List (Nat × Int) => c = .exit 3)) (OwnFrom.and (PlQ.ownF HO4.out (Nat.le_of_lt hN5.lt) hP5.B.size) (ownFrom_marks hM5 (Nat.le_refl _))))
            ⟨hP5, ⟨hM5, Nat.le_refl _⟩, by simpa using hN5⟩ (fun s X Y h t => ⟨h.1.tn t, ⟨marks_q h.2.1.1 h.1.q t.k, Nat.le_trans h.2.1.2 t.k.size⟩, h.1.q.far t.k h.2.2⟩) (fun X Y k o t hk h => (t.k.block k (Array.getElem?_eq_some_iff.1 h).1 (fun e => by have := hP5.q.ltC; omega)).trans h) ?aE ?assignE ?bodyE ?doneE ?stopE
          case assignE =>
            intro l x W K hK
            unfold encP
            gi_wp2
            exact hK
          case bodyE =>
            rintro l pre x W ⟨hI, ⟨hMk, hsz⟩, hNb⟩ hpl
            have cN := blk_one hNb
            have fN := hNb.frozen 0
            have cS := blk_one hI.S
            have hl64 : (pre.length : Int) < 4096 := by omega
            have HPs := Lib.hid (hI.set HO4.out HR4.out hnb (.int .i64 ((pre.length : Int) + 1)))
            have HNs := Lib.hid (blk_set1 hNb (.int .i64 ((pre.length : Int) + 1)))
            have HMs := Lib.hid (hMk.mono (KeepsOthers.setCell W ⟨nb, 0, none⟩ (.int .i64 ((pre.length : Int) + 1))))
            have HSz : Hid (V5.heap.size ≤ (W.setCell ⟨nb, 0, none⟩ (.int .i64 ((pre.length : Int) + 1))).heap.size) := Lib.hid (Nat.le_trans hsz (KeepsOthers.setCell W ⟨nb, 0, none⟩ (.int .i64 ((pre.length : Int) + 1))).size)
            have HKp := Lib.hid (KpS.set (S := (· = nb)) (W := W) (p := ⟨nb, 0, none⟩) (.int .i64 ((pre.length : Int) + 1)) rfl)
            clear hI hNb hMk hsz hP5 hM5 hN5 hB
            by_cases hst : (pre.length : Int) + 1 = stop
            · have hst' : ((pre.length : Int) + 1 == stop) = true := by simpa using hst
              clear hst
              gi_wp2
              exact ⟨KeepsOthers.setCell _ _ _, rfl, HPs.out, HMs.out, HSz.out⟩
            · have hst' : ((pre.length : Int) + 1 == stop) = false := by simpa using hst
              clear hst
              gi_wp2
              exact ⟨KeepsOthers.setCell _ _ _, HKp.out, HPs.out, ⟨HMs.out, HSz.out⟩, by rw [List.length_append]; exact HNs.out⟩
          case stopE =>
            rintro D c pre W hD hp ⟨rfl, hI, hMk, hsz⟩ hd
            have HMd := Lib.hid (Marks.cons hM5 hP5.B.size hD hd hMk)
            have HPd := Lib.hid hI
            clear hI hMk hsz hd hP5 hM5 hN5 hB
            generalize ({ target := .collected D, args := #[] } :: ds : List Deferred) = ds2 at *
            go_wp2_with fail
            refine (qsame HPd.out.q HPd.out.z HPd.out.row).mono ?_
            rintro e W7 ⟨rfl, hq7, hk7⟩
            have HP7 := Lib.hid (HPd.out.step hk7 hq7 (HPd.out.row.q HPd.out.q hk7) HPd.out.z)
            have HM7 := Lib.hid (marks_q HMd.out HPd.out.q hk7)
            clear hq7 hk7 HPd HMd
            go_wp2_with fail
            exact ⟨RelQ.mk (j + 1) rfl ⟨rfl, rfl, rfl, rfl, rfl, rfl, (show Value.int .i64 ((j : Int) + 1) = .int .i64 ((j + 1 : Nat) : Int) by go_num)⟩ (by omega) HP7.out HM7.out, by simp [intOf]; omega⟩
          case doneE =>
            rintro D ys W hD hys ⟨hI, ⟨hMk, hsz⟩, hNb⟩ hd
            have HMd := Lib.hid (Marks.cons hM5 hP5.B.size hD hd hMk)
            clear hys hNb
            have HPd := Lib.hid hI
            clear hI hMk hsz hd hP5 hM5 hN5 hB
            generalize ({ target := .collected D, args := #[] } :: ds : List Deferred) = ds2 at *
            go_wp2_with fail
            refine (qsame HPd.out.q HPd.out.z HPd.out.row).mono ?_
            rintro e W7 ⟨rfl, hq7, hk7⟩
            have HP7 := Lib.hid (HPd.out.step hk7 hq7 (HPd.out.row.q HPd.out.q hk7) HPd.out.z)
            have HM7 := Lib.hid (marks_q HMd.out HPd.out.q hk7)
            clear hq7 hk7 HPd HMd
            go_wp2_with fail
            exact ⟨RelQ.mk (j + 1) rfl ⟨rfl, rfl, rfl, rfl, rfl, rfl, (show Value.int .i64 ((j : Int) + 1) = .int .i64 ((j + 1 : Nat) : Int) by go_num)⟩ (by omega) HP7.out HM7.out, by simp [intOf]; omega⟩
        · have e3 : (ok == 3) = false := by simpa using hk3
          have e3' : decide (ok = 3) = false := decide_eq_false hk3
          have HP3 := HP1
          have HM3 := HM1
          clear hk1 hk2 hk3 HP1 HM1 HO1
          go_upto_region 31 with fail
          clear e1 e2 e3 e1' e2' e3' c0 c1
          -- HP3, HM3: both were moved; the things are gone through as far as stop
          have hl3 : qs.length ≤ 4096 := Nat.le_trans HP3.out.q.len HP3.out.q.room
          have HO4 := Lib.hid HP3.out.q.old
          have HR4 := Lib.hid HP3.out.row.lt
          have hnb := HP3.out.S.lt
          have HP4 := Lib.hid (HP3.out.below (below_alloc W1 (Obj.cells #[.int .i64 0] 3)))
          have HM4 := Lib.hid (HM3.out.mono (keepsOthers_below (below_alloc W1 (Obj.cells #[.int .i64 0] 3))))
          have HN4 := Lib.hid (Blk.new W1 3 #[.int .i64 0])
          clear HP3 HM3
          go_upto_region 32 with fail
          generalize W1.alloc (Obj.cells #[.int .i64 0] 3) = V0 at *
          generalize W1.heap.size = nb at *
          go_wp2_with fail
          refine (qall_any _).mono ?_
          rintro e w5 ⟨rfl, rfl⟩
          have hb5 := below_alloc V0 (Obj.cells #[.pointer (some ⟨A, 0, none⟩)] 24)
          have hB := Blk.new V0 24 #[.pointer (some ⟨A, 0, none⟩)]
          have hP5 := HP4.out.below hb5
          have hM5 := HM4.out.mono (keepsOthers_below hb5)
          have hN5 := HN4.out.below hb5 HN4.out.lt
          clear HP4 HM4 HN4 hb5
          go_wp2_with fail
          generalize V0.heap.size = bp at *
          generalize V0.alloc (Obj.cells #[.pointer (some ⟨A, 0, none⟩)] 24) = V5 at *
          refine wp_rangeT (N := qs.length) (w0 := V5) rfl (enters_of Try.func27 (by kernel_rfl) rfl) (qall_gives (S := (· = nb)) hP5.q hB (fun g e => by have := hN5.lt; omega) (fun x hx e => by have := HO4.out.b x hx; omega)) (fun h k => h.trans k) (fun W l o o' _ h hc _ => KpS.put W l o o' h hc) (Below.refl _ _) (fun _ => rfl)
            (fun pre W => PlQ stop w A C R ua uc qs zs W ∧ (Marks w.heap.size ds W ∧ V5.heap.size ≤ W.heap.size) ∧ Blk W nb 3 #[.int .i64 (pre.length : Int)]) (fun c _ W => c = .exit 3 ∧ PlQ stop w A C R ua uc qs zs W ∧ (Marks w.heap.size ds W ∧ V5.heap.size ≤ W.heap.size))
            (OwnFrom.and (PlQ.ownF HO4.out (Nat.le_of_lt hN5.lt) hP5.B.size) (OwnFrom.and (ownFrom_marks hM5 (Nat.le_refl _)) (Own.from (blk_own _ _ (fun pre : List (Nat × Int) => #[.int .i64 (pre.length : Int)])) _))) (fun c => OwnFrom.and (ownFrom_pure' (fun _ : List (Nat × Int) => c = .exit 3)) (OwnFrom.and (PlQ.ownF HO4.out (Nat.le_of_lt hN5.lt) hP5.B.size) (ownFrom_marks hM5 (Nat.le_refl _))))
            ⟨hP5, ⟨hM5, Nat.le_refl _⟩, by simpa using hN5⟩ (fun s X Y h t => ⟨h.1.tn t, ⟨marks_q h.2.1.1 h.1.q t.k, Nat.le_trans h.2.1.2 t.k.size⟩, h.1.q.far t.k h.2.2⟩) (fun X Y k o t hk h => (t.k.block k (Array.getElem?_eq_some_iff.1 h).1 (fun e => by have := hP5.q.ltC; omega)).trans h) ?aF ?assignF ?bodyF ?doneF ?stopF
          case assignF =>
            intro l x W K hK
            unfold encP
            gi_wp2
            exact hK
          case bodyF =>
            rintro l pre x W ⟨hI, ⟨hMk, hsz⟩, hNb⟩ hpl
            have cN := blk_one hNb
            have fN := hNb.frozen 0
            have cS := blk_one hI.S
            have hl64 : (pre.length : Int) < 4096 := by omega
            have HPs := Lib.hid (hI.set HO4.out HR4.out hnb (.int .i64 ((pre.length : Int) + 1)))
            have HNs := Lib.hid (blk_set1 hNb (.int .i64 ((pre.length : Int) + 1)))
            have HMs := Lib.hid (hMk.mono (KeepsOthers.setCell W ⟨nb, 0, none⟩ (.int .i64 ((pre.length : Int) + 1))))
            have HSz : Hid (V5.heap.size ≤ (W.setCell ⟨nb, 0, none⟩ (.int .i64 ((pre.length : Int) + 1))).heap.size) := Lib.hid (Nat.le_trans hsz (KeepsOthers.setCell W ⟨nb, 0, none⟩ (.int .i64 ((pre.length : Int) + 1))).size)
            have HKp := Lib.hid (KpS.set (S := (· = nb)) (W := W) (p := ⟨nb, 0, none⟩) (.int .i64 ((pre.length : Int) + 1)) rfl)
            clear hI hNb hMk hsz hP5 hM5 hN5 hB
            by_cases hst : (pre.length : Int) + 1 = stop
            · have hst' : ((pre.length : Int) + 1 == stop) = true := by simpa using hst
              clear hst
              gi_wp2
              exact ⟨KeepsOthers.setCell _ _ _, rfl, HPs.out, HMs.out, HSz.out⟩
            · have hst' : ((pre.length : Int) + 1 == stop) = false := by simpa using hst
              clear hst
              gi_wp2
              exact ⟨KeepsOthers.setCell _ _ _, HKp.out, HPs.out, ⟨HMs.out, HSz.out⟩, by rw [List.length_append]; exact HNs.out⟩
          case stopF =>
            rintro D c pre W hD hp ⟨rfl, hI, hMk, hsz⟩ hd
            have HMd := Lib.hid (Marks.cons hM5 hP5.B.size hD hd hMk)
            have HPd := Lib.hid hI
            clear hI hMk hsz hd hP5 hM5 hN5 hB
            generalize ({ target := .collected D, args := #[] } :: ds : List Deferred) = ds2 at *
            go_wp2_with fail
            refine (qsame HPd.out.q HPd.out.z HPd.out.row).mono ?_
            rintro e W7 ⟨rfl, hq7, hk7⟩
            have HP7 := Lib.hid (HPd.out.step hk7 hq7 (HPd.out.row.q HPd.out.q hk7) HPd.out.z)
            have HM7 := Lib.hid (marks_q HMd.out HPd.out.q hk7)
            clear hq7 hk7 HPd HMd
            go_wp2_with fail
            exact ⟨RelQ.mk (j + 1) rfl ⟨rfl, rfl, rfl, rfl, rfl, rfl, (show Value.int .i64 ((j : Int) + 1) = .int .i64 ((j + 1 : Nat) : Int) by go_num)⟩ (by omega) HP7.out HM7.out, by simp [intOf]; omega⟩
          case doneF =>
            rintro D ys W hD hys ⟨hI, ⟨hMk, hsz⟩, hNb⟩ hd
            have HMd := Lib.hid (Marks.cons hM5 hP5.B.size hD hd hMk)
            clear hys hNb
            have HPd := Lib.hid hI
            clear hI hMk hsz hd hP5 hM5 hN5 hB
            generalize ({ target := .collected D, args := #[] } :: ds : List Deferred) = ds2 at *
            go_wp2_with fail
            refine (qsame HPd.out.q HPd.out.z HPd.out.row).mono ?_
            rintro e W7 ⟨rfl, hq7, hk7⟩
            have HP7 := Lib.hid (HPd.out.step hk7 hq7 (HPd.out.row.q HPd.out.q hk7) HPd.out.z)
            have HM7 := Lib.hid (marks_q HMd.out HPd.out.q hk7)
            clear hq7 hk7 HPd HMd
            go_wp2_with fail
            exact ⟨RelQ.mk (j + 1) rfl ⟨rfl, rfl, rfl, rfl, rfl, rfl, (show Value.int .i64 ((j : Int) + 1) = .int .i64 ((j + 1 : Nat) : Int) by go_num)⟩ (by omega) HP7.out HM7.out, by simp [intOf]; omega⟩

theorem walkQueuePlays (room : Int) (a : Option Addr) (len cap : Nat) (f : Nat → OpQ) (stop : Int) (w : World) (h0 : (Lit.int .i64 room).wf = true) (h1 : RowOpQ w a len cap f) (h2 : (Lit.int .i64 stop).wf = true) : Calls Try.prog 3 #[.int .i64 room, .slice a len cap, .int .i64 stop] w fun e w' => e = .returned (.bool true) ∧ Below w.heap.size w w' := by
  by_cases h : room < 1 ∨ 4096 < room
  · exact walkQueuePlays_n room a len cap stop w h
  · obtain ⟨R, rfl⟩ := Int.eq_ofNat_of_zero_le (show 0 ≤ room by omega)
    by_cases hl : 80 < len
    · exact walkQueuePlays_l R a len cap stop w (by omega) (by omega) hl
    · exact walkQueuePlays_t R a len cap f stop w (by omega) (by omega) h1 (by omega)

end Go.Proofs.Ytcdfolphbabaoaa
