/-
  The walk of CodecWrites.
-/
import Derived.Test.YtamenbchebfplaaCodecE
import Derived.Deep.RegionWith
namespace Go.Proofs.Ytamenbchebfplaa
open Go.RowKit CrcM
set_option linter.unusedVariables false
set_option linter.unnecessarySimpa false
set_option linter.unusedSimpArgs false

/-- What one item writes. -/
def part (x : ItemR) : List Nat := if x.wd = 0 then x.bs else leb x.wd.toNat x.v.toNat
theorem wrote_succ (f : Nat → ItemR) (k : Nat) : wrote f (k + 1) = wrote f k ++ part (f k) := rfl
theorem part_zero {x : ItemR} (h : x.wd = 0) : part x = x.bs := by unfold part; rw [if_pos h]
theorem part_num {x : ItemR} (h : x.wd ≠ 0) : part x = leb x.wd.toNat x.v.toNat := by unfold part; rw [if_neg h]
theorem wrote_more (f : Nat → ItemR) (k d : Nat) : ∃ l, wrote f (k + d) = wrote f k ++ l := by
  induction d with
  | zero => exact ⟨[], by simp⟩
  | succ d ih =>
    obtain ⟨l, hl⟩ := ih
    exact ⟨l ++ part (f (k + d)), by rw [← Nat.add_assoc, wrote_succ, hl, List.append_assoc]⟩
/-- What is left behind the first k items of n. -/
def rests (f : Nat → ItemR) (n k : Nat) : List Nat := (wrote f n).drop (wrote f k).length
theorem rests_succ (f : Nat → ItemR) (n k : Nat) (h : k < n) : rests f n k = part (f k) ++ rests f n (k + 1) := by
  obtain ⟨l, hl⟩ := wrote_more f (k + 1) (n - (k + 1))
  rw [show k + 1 + (n - (k + 1)) = n by omega] at hl
  unfold rests
  rw [hl, wrote_succ]
  simp
theorem rests_zero (f : Nat → ItemR) (n : Nat) : rests f n 0 = wrote f n := by simp [rests, wrote]
theorem rests_full (f : Nat → ItemR) (n : Nat) : rests f n n = [] := by simp [rests]

/-- A pen (of some bytes, or wrong) and a row of bytes of the call's own, apart; B: the first block of the call's own. -/
structure Two (B p : Nat) (r : Option (List Nat)) (wv : Value) (ws : List Nat) (w : World) : Prop where
  pen : ∀ qs, r = some qs → ∃ v, PenAt w p v qs ∧ ∀ g, v.ownBlock = some g → B ≤ g ∧ some g ≠ wv.ownBlock
  bad : r = none → PenBad w p
  own : w.ownsRow B 5 1 wv ws.length (bvals ws)
  lt : ∀ c ∈ ws, c < 256

theorem Two.below {B p : Nat} {r : Option (List Nat)} {wv : Value} {ws : List Nat} {w w' : World} (h : Two B p r wv ws w) (hb : Below w.heap.size w w') : Two B p r wv ws w' := by
  have k : Kept (fun _ => False) w w' := Kept.of_below hb
  refine ⟨fun qs hq => ?_, fun hq => (h.bad hq).kept k (fun h => h), own_kept h.own k (fun _ _ h => h), h.lt⟩
  obtain ⟨v, hv, hs⟩ := h.pen qs hq
  exact ⟨v, hv.kept k (fun h => h) (fun _ _ h => h), hs⟩

theorem rnum_anyI (WD X : Int) (k x : Nat) (hWD : WD = k) (hX : X = x) (w : World) (hk : k ≤ 1000000) (hx : x < 9223372036854775808) :
    Calls Try.prog 12 #[.int .i64 WD, .int .i64 X] w (RNumPost (leb k x) w) := by
  subst hWD hX; exact rnum_any k x w hk hx

/-- What an item's block holds stays. -/
def ItemsKept (w w' : World) : Prop := ∀ g cs, Blk w g 29 cs → Blk w' g 29 cs

/-- What a call of the pen leaves. -/
def TwoPost (B p : Nat) (r : Option (List Nat)) (wv : Value) (ws : List Nat) (w : World) (e : Ending) (w' : World) : Prop :=
  e = .returned (.tuple #[]) ∧ Two B p r wv ws w' ∧ Below B w w' ∧ ItemsKept w w'

theorem Two.alloc {B p : Nat} {r : Option (List Nat)} {wv : Value} {ws : List Nat} {w : World} (h : Two B p r wv ws w) (o : Obj) : Two B p r wv ws (w.alloc o) := by
  have k : Kept (fun _ => False) w (w.alloc o) := Kept.of_below (below_alloc w o)
  refine ⟨fun qs hq => ?_, fun hq => (h.bad hq).alloc o, own_kept h.own k (fun _ _ h => h), h.lt⟩
  obtain ⟨v, hv, hs⟩ := h.pen qs hq
  exact ⟨v, hv.kept k (fun h => h) (fun _ _ h => h), hs⟩

theorem Two.wrote_ {B p : Nat} {qs ds : List Nat} {wv v : Value} {ws : List Nat} {w w' : World} {e : Ending} (h : Two B p (some qs) wv ws w) (hp : B ≤ p) (hB : B ≤ w.heap.size) (hv : PenAt w p v qs) (hs : ∀ g, v.ownBlock = some g → B ≤ g ∧ some g ≠ wv.ownBlock)
    (hw : PenWrote p v qs ds w e w') : TwoPost B p (some (qs ++ ds)) wv ws w e w' := by
  obtain ⟨he, v', hv', hk, hd⟩ := hw
  have hne : ∀ g, wv.ownBlock = some g → ¬ PenSet p v g := fun g hg hS => by
    rcases hS with rfl | hS
    · exact own_unlike h.own hv.1 (by decide) hg.symm
    · exact (hs g hS.symm).2 hg.symm
  refine ⟨he, ⟨fun qs' hq => ?_, fun hq => (by cases hq), own_kept h.own hk hne, h.lt⟩, hk.below hB (fun k hk1 hS => ?_), fun g cs hg => hg.kept hk (fun hS => ?_)⟩
  · cases hq
    refine ⟨v', hv', fun g hg => ?_⟩
    rcases hd with hd | ⟨g', hd, hg'⟩
    · exact hs g (hd ▸ hg)
    · rw [hd] at hg; cases hg
      exact ⟨by omega, fun e => by have := own_lt h.own e.symm; omega⟩
  · rcases hS with rfl | hS
    · omega
    · have := (hs k hS.symm).1; omega
  · rcases hS with rfl | hS
    · exact hg.unlike hv.1 (by decide) rfl
    · exact own_unlike hv.2.1 hg (by decide) hS

theorem Two.spoilt {B p : Nat} {r : Option (List Nat)} {wv : Value} {ws : List Nat} {w w' : World} {e : Ending} {t : Array Value} (h : Two B p r wv ws w) (hp : B ≤ p) (hB : B ≤ w.heap.size) (hb : Blk w p 27 t) (hw : PenSpoilt p w e w') : TwoPost B p none wv ws w e w' := by
  obtain ⟨he, hbad, hk⟩ := hw
  refine ⟨he, ⟨fun qs' hq => (by cases hq), fun _ => hbad, own_kept h.own hk (fun g hg e => own_unlike h.own hb (by decide) (by rw [hg, e])), h.lt⟩, hk.below hB (fun k hk1 hS => by omega), fun g cs hg => hg.kept hk (fun hS => hg.unlike hb (by decide) hS)⟩

theorem two_bytes (B p : Nat) (r : Option (List Nat)) (wv : Value) (ws : List Nat) (w : World) (a : Option Addr) (len cap : Nat) (ds : List Nat) (h : Two B p r wv ws w) (hp : B ≤ p) (hB : B ≤ w.heap.size) (hr : RowB w a len cap ds) (hl : ∀ qs, r = some qs → qs.length + len ≤ 1000000000) :
    Calls Try.prog 9 #[.pointer (some ⟨p, 0, none⟩), .slice a len cap] w (TwoPost B p (r.map (· ++ ds)) wv ws w) := by
  cases r with
  | none =>
    refine (penBytes_bad p a len cap w (h.bad rfl)).mono ?_
    rintro e w' ⟨rfl, rfl⟩
    exact ⟨rfl, h, Below.refl _ _, fun g cs hg => hg⟩
  | some qs =>
    obtain ⟨v, hv, hs⟩ := h.pen qs rfl
    exact (penBytes_any p v qs a len cap ds w hv hr (hl qs rfl)).mono (fun e w' hw => h.wrote_ hp hB hv hs hw)

theorem two_num (B p : Nat) (r : Option (List Nat)) (wv : Value) (ws : List Nat) (w : World) (wd x : Int) (h : Two B p r wv ws w) (hp : B ≤ p) (hB : B ≤ w.heap.size) (hl : ∀ qs, r = some qs → qs.length + 7 ≤ 1000000000) :
    Calls Try.prog 10 #[.pointer (some ⟨p, 0, none⟩), .int .i64 wd, .int .i64 x] w (TwoPost B p (if fitB wd x = true then r.map (· ++ leb wd.toNat x.toNat) else none) wv ws w) := by
  cases hf : fitB wd x with
  | true =>
    rw [if_pos rfl]
    have hw := of_decide_eq_true hf
    obtain ⟨k, rfl⟩ : ∃ k : Nat, wd = k := ⟨wd.toNat, by omega⟩
    obtain ⟨y, rfl⟩ : ∃ y : Nat, x = y := ⟨x.toNat, by omega⟩
    cases r with
    | none => exact (penNum_okBad p k y w (h.bad rfl) hf).mono (fun e w' hw => h.spoilt hp hB (h.bad rfl) hw)
    | some qs =>
      obtain ⟨v, hv, hs⟩ := h.pen qs rfl
      exact (penNum_ok p v qs k y w hv hf (hl qs rfl)).mono (fun e w' hw => h.wrote_ hp hB hv hs hw)
  | false =>
    rw [if_neg (by decide)]
    cases r with
    | none => exact (penNum_wrong p _ true wd x w (h.bad rfl) hf).mono (fun e w' hw => h.spoilt hp hB (h.bad rfl) hw)
    | some qs =>
      obtain ⟨v, hv, hs⟩ := h.pen qs rfl
      exact (penNum_wrong p v false wd x w hv.1 hf).mono (fun e w' hw => h.spoilt hp hB hv.1 hw)

theorem Two.append {B p : Nat} {r : Option (List Nat)} {wv wv' : Value} {ws ds : List Nat} {w w' : World} (h : Two B p r wv ws w) (hB : B ≤ w.heap.size) (hb : ∀ g, wv.ownBlock = some g → B ≤ g) (hd : ∀ c ∈ ds, c < 256) (ho : w'.ownsRow B 5 1 wv' (ws ++ ds).length (bvals (ws ++ ds))) (hg : w.grownBy w' wv.ownBlock)
    (hw : wv'.ownBlock = wv.ownBlock ∨ wv'.ownBlock = some w.heap.size) : Two B p r wv' (ws ++ ds) w' ∧ Below B w w' ∧ ItemsKept w w' := by
  have k : Kept (fun g => some g = wv.ownBlock) w w' := (Kept.refl _ w).grown hg (fun g e => e.symm)
  refine ⟨⟨fun qs hq => ?_, fun hq => (h.bad hq).kept k (own_unlike h.own (h.bad hq) (by decide)), ho, fun c hc => ?_⟩, k.below hB (fun g hg e => by have := hb g e.symm; omega), fun g cs hg' => hg'.kept k (own_unlike h.own hg' (by decide))⟩
  · obtain ⟨v, hv, hs⟩ := h.pen qs hq
    refine ⟨v, hv.kept k (own_unlike h.own hv.1 (by decide)) (fun g hg e => (hs g hg).2 e), fun g hg' => ⟨(hs g hg').1, fun e => ?_⟩⟩
    rcases hw with hw | hw
    · exact (hs g hg').2 (by rw [e, hw])
    · have := own_lt hv.2.1 hg'; rw [hw] at e; have := Option.some.inj e; omega
  · rcases List.mem_append.1 hc with h1 | h1
    · exact h.lt c h1
    · exact hd c h1

/-- How far the items have been written: k of them. -/
def Way (f : Nat → ItemR) (B p k : Nat) (r : Option (List Nat)) (wv : Value) (ws : List Nat) (w : World) : Prop :=
  Two B p r wv ws w ∧ ws.length ≤ 107 * k ∧ ∀ qs, r = some qs → qs = ws ∧ ws = wrote f k ∧ ∀ j, j < k → itFits (f j) = true

theorem Way.next {f : Nat → ItemR} {B p k : Nat} {r r' : Option (List Nat)} {wv wv' : Value} {ws ds : List Nat} {w w' : World} (h : Way f B p k r wv ws w) (h2 : Two B p r' wv' (ws ++ ds) w') (hl : ds.length ≤ 107) (hr : ∀ qs, r' = some qs → ds = part (f k) ∧ itFits (f k) = true ∧ ∃ q, r = some q ∧ qs = q ++ ds) :
    Way f B p (k + 1) r' wv' (ws ++ ds) w' := by
  refine ⟨h2, by rw [List.length_append]; have := h.2.1; omega, fun qs hq => ?_⟩
  obtain ⟨h3, h4, q, h5, h6⟩ := hr qs hq
  obtain ⟨e1, e2, e3⟩ := h.2.2 q h5
  refine ⟨by rw [h6, e1], by rw [wrote_succ, ← h3, e2], fun j hj => ?_⟩
  by_cases hjk : j < k
  · exact e3 j hjk
  · obtain rfl : j = k := by omega
    exact h4

set_option maxHeartbeats 400000 in
theorem walkWrites_out (a : Option Addr) (la ca : Nat) (w : World) (ma : la ≤ 9223372036854775807) (ho : 40 < la) :
    Calls Try.prog 3 #[.slice a la ca] w fun e w' => e = .returned (.bool true) ∧ Below w.heap.size w w' := by
  have d0 : decide ((40 : Int) < (la : Int)) = true := decide_eq_true (by omega)
  go_enter Try.func3, Try.ntmps3
  go_wp2_with fail
  refine (anchor2_any _).mono ?_
  rintro e w1 ⟨rfl, hb1⟩
  go_wp2_with fail
  go_ret
  exact ⟨rfl, hb1⟩

set_option maxRecDepth 100000 in
set_option maxHeartbeats 8000000 in
theorem walkWrites_in (a : Option Addr) (la ca : Nat) (f : Nat → ItemR) (w : World) (ha : RowIt w a la ca f) (h1 : la ≤ 40) :
    Calls Try.prog 3 #[.slice a la ca] w fun e w' => e = .returned (.bool true) ∧ Below w.heap.size w w' := by
  have Ha := Lib.hid ha
  have hlb := ha.le
  have hcb := ha.max
  unfold maxLen at hcb
  clear ha
  go_enter Try.func3, Try.ntmps3
  go_wp2_with fail
  refine (anchor2_any _).mono ?_
  rintro e w1 ⟨rfl, hb1⟩
  go_wp2_with fail
  have hz1 := hb1.size
  have hw0 : Way f w.heap.size w1.heap.size 0 (some []) (.slice none 0 0) [] (w1.alloc (Obj.cells #[.slice none 0 0, .bool false] 27)) :=
    ⟨⟨fun qs hq => by cases hq; exact ⟨_, pen_new _ (Blk.new w1 _ _), fun g h => by cases h⟩, fun h => (by cases h), World.ownsRow_nil _ _ _ _, by simp⟩, by simp, fun qs hq => by cases hq; exact ⟨rfl, rfl, fun j h => absurd h (Nat.not_lt_zero j)⟩⟩
  have HW0 := Lib.hid hw0
  have HB1 := Lib.hid (bthen hb1 (below_alloc w1 (Obj.cells #[.slice none 0 0, .bool false] 27)))
  clear hw0 hb1
  generalize w1.heap.size = p at *
  go_loopw [4, 5, 22] (fun wv d i wr => ∃ (k : Nat) (r : Option (List Nat)) (ws : List Nat), k ≤ la ∧ i = .int .i64 k ∧ d = .bool r.isSome ∧ Way f w.heap.size p k r wv ws wr ∧ Below w.heap.size w wr) (fun _ _ i _ => la - (intOf i).toNat)
  case atStart => exact ⟨0, some [], [], Nat.zero_le _, rfl, rfl, HW0.out, HB1.out⟩
  case round =>
    obtain ⟨k, r, ws, hk, rfl, rfl, hway, hbw⟩ := hrel
    have Hway := Lib.hid hway
    have Hbw := Lib.hid hbw
    have hBw := hbw.size
    clear hway hbw HW0 HB1
    by_cases hlt : k < la
    · obtain ⟨bb, off, rfl, hc0⟩ := Ha.out.cells (by omega)
      have Hrow := Lib.hid (hc0 k hlt).row
      obtain ⟨c0, c1, c2, _, wfd, wfv⟩ := (hc0 k hlt).below Hbw.out
      have bd1 := bounds_i64 wfd
      have bd2 := bounds_i64 wfv
      have Hx := Lib.hid (show f k = f k from rfl)
      clear hc0 wfd wfv
      generalize hX : f k = x at c0 c1 c2 Hrow bd1 bd2
      have HX := Lib.hid hX
      clear hX Hx
      by_cases hn : 100 < x.n
      · have dn : decide ((100 : Int) < (x.n : Int)) = true := decide_eq_true (by omega)
        go_wp2_with fail
        go_ret
        exact ⟨rfl, bthen Hbw.out (below_alloc wr _)⟩
      · have dn : decide ((100 : Int) < (x.n : Int)) = false := decide_eq_false (by omega)
        have hn' : x.n ≤ 100 := by omega
        clear hn
        have hB2 := Lib.hid (bthen Hbw.out (below_alloc wr (Obj.cells #[.int .i64 x.wd, .int .i64 x.v, .slice x.a x.n x.c] 29)))
        have hT2 := Lib.hid (Hway.out.1.alloc (Obj.cells #[.int .i64 x.wd, .int .i64 x.v, .slice x.a x.n x.c] 29))
        have hX2 := Lib.hid (Blk.new wr 29 #[.int .i64 x.wd, .int .i64 x.v, .slice x.a x.n x.c])
        have hfew : Hid (∀ qs, r = some qs → qs.length ≤ 107 * k) := Lib.hid (fun qs hq => by rw [(Hway.out.2.2 qs hq).1]; exact Hway.out.2.1)
        by_cases hz : x.wd = 0
        · have e0 : (x.wd == 0) = true := by rw [beq_iff_eq]; exact hz
          have C := Lib.hid (two_bytes w.heap.size p r _ ws _ x.a x.n x.c x.bs hT2.out hz1 (by simp; omega) (Hrow.out.below hB2.out) (fun qs hq => by have := hfew.out qs hq; omega))
          have Hz := Lib.hid hz
          clear hz
          go_wp2_with fail
          refine C.out.mono ?_
          rintro e w3 ⟨rfl, hT3, hB3, hI3⟩
          have hX3 := hI3 _ _ hX2.out
          have x2 : w3.cell? ⟨wr.heap.size, 2, none⟩ = some (.slice x.a x.n x.c) := hX3.cell 2
          have Hb3 := Lib.hid (hB2.out.trans hB3)
          have HT3 := Lib.hid hT3
          clear hT3 hB3 hI3 hX3 C
          go_wp2_with (at_builtin; refine wpList_append_bytes_at rfl (.tmp 37) (.tmp 39) rfl w.heap.size _ _ ws rfl HT3.out.own x.a x.n x.c x.bs rfl (Hrow.out.below Hb3.out) (by have := Hway.out.2.1; omega) Hb3.out.size ?_; intro v4 w4 hown hgrow hwhere; have HA4 := Lib.hid (HT3.out.append Hb3.out.size (fun g hg => (HT3.out.own.lt g hg).1) Hrow.out.lt (by rw [List.length_append, Hrow.out.length]; exact hown) hgrow hwhere); clear hown hgrow hwhere; go_frame)
          go_roundw
          case rel =>
            refine ⟨k + 1, r.map (· ++ x.bs), ws ++ x.bs, by omega, by go_num, by cases r <;> rfl, Hway.out.next HA4.out.1 (by rw [Hrow.out.length]; omega) (fun qs hq => ?_), Hb3.out.trans HA4.out.2.1⟩
            cases r with
            | none => cases hq
            | some q => cases hq; exact ⟨by rw [HX.out, part_zero Hz.out], by rw [HX.out]; unfold itFits; rw [Hz.out]; rfl, q, rfl, rfl⟩
          case measure => simp [intOf]; omega
        · have e0 : (x.wd == 0) = false := by rw [beq_eq_false_iff_ne]; exact hz
          have C := Lib.hid (two_num w.heap.size p r _ ws _ x.wd x.v hT2.out hz1 (by simp; omega) (fun qs hq => by have := hfew.out qs hq; omega))
          have Hz := Lib.hid hz
          clear hz
          cases hf : fitB x.wd x.v with
          | false =>
            have Hf := Lib.hid hf
            rw [hf, if_neg (by decide)] at C
            clear hf
            cases r with
            | none =>
              have dk : (none : Option (List Nat)).isSome = false := rfl
              go_wp2_with fail
              refine C.out.mono ?_
              rintro e w3 ⟨rfl, hT3, hB3, hI3⟩
              have HT3 := Lib.hid hT3
              have Hb3 := Lib.hid (hB2.out.trans hB3)
              clear hT3 hB3 hI3 C
              go_wp2_with fail
              go_roundw
              case rel => exact ⟨k + 1, none, ws, by omega, by go_num, rfl, ⟨HT3.out, by have := Hway.out.2.1; omega, fun qs hq => by cases hq⟩, Hb3.out⟩
              case measure => simp [intOf]; omega
            | some q =>
              have dk : (some q : Option (List Nat)).isSome = true := rfl
              go_wp2_with fail
              refine C.out.mono ?_
              rintro e w3 ⟨rfl, hT3, hB3, hI3⟩
              have hX3 := hI3 _ _ hX2.out
              have x0 : w3.cell? ⟨wr.heap.size, 0, none⟩ = some (.int .i64 x.wd) := hX3.cell 0
              have x1 : w3.cell? ⟨wr.heap.size, 1, none⟩ = some (.int .i64 x.v) := hX3.cell 1
              have HT3 := Lib.hid hT3
              have Hb3 := Lib.hid (hB2.out.trans hB3)
              clear hT3 hB3 hI3 hX3 C
              go_wp2_with fail
              refine (rfits_any _ _ _).mono ?_; rintro e' w' ⟨rfl, rfl⟩; rw [Hf.out]
              go_wp2_with fail
              go_roundw
              case rel => exact ⟨k + 1, none, ws, by omega, by go_num, rfl, ⟨HT3.out, by have := Hway.out.2.1; omega, fun qs hq => by cases hq⟩, Hb3.out⟩
              case measure => simp [intOf]; omega
          | true =>
            have Hf := Lib.hid hf
            rw [hf, if_pos rfl] at C
            have hwd := of_decide_eq_true hf
            obtain ⟨wn, hwn⟩ : ∃ n : Nat, x.wd = n := ⟨x.wd.toNat, by omega⟩
            obtain ⟨xn, hxn⟩ : ∃ n : Nat, x.v = n := ⟨x.v.toNat, by omega⟩
            have hw1 : 1 ≤ wn := by omega
            have hw7 : wn ≤ 7 := by omega
            have hxb : xn < 9223372036854775808 := by omega
            have Hp := Lib.hid (show part x = leb wn xn by rw [part_num Hz.out, hwn, hxn]; rfl)
            have Hwn := Lib.hid hwn
            have Hxn := Lib.hid hxn
            rw [show leb x.wd.toNat x.v.toNat = leb wn xn by rw [hwn, hxn]; rfl] at C
            clear hf hwd hwn hxn
            cases r with
            | none =>
              have dk : (none : Option (List Nat)).isSome = false := rfl
              go_wp2_with fail
              refine C.out.mono ?_
              rintro e w3 ⟨rfl, hT3, hB3, hI3⟩
              have HT3 := Lib.hid hT3
              have Hb3 := Lib.hid (hB2.out.trans hB3)
              clear hT3 hB3 hI3 C
              go_wp2_with fail
              go_roundw
              case rel => exact ⟨k + 1, none, ws, by omega, by go_num, rfl, ⟨HT3.out, by have := Hway.out.2.1; omega, fun qs hq => by cases hq⟩, Hb3.out⟩
              case measure => simp [intOf]; omega
            | some q =>
              have dk : (some q : Option (List Nat)).isSome = true := rfl
              go_wp2_with fail
              refine C.out.mono ?_
              rintro e w3 ⟨rfl, hT3, hB3, hI3⟩
              have hX3 := hI3 _ _ hX2.out
              have x0 : w3.cell? ⟨wr.heap.size, 0, none⟩ = some (.int .i64 x.wd) := hX3.cell 0
              have x1 : w3.cell? ⟨wr.heap.size, 1, none⟩ = some (.int .i64 x.v) := hX3.cell 1
              have HT3 := Lib.hid hT3
              have Hb3 := Lib.hid (hB2.out.trans hB3)
              clear hT3 hB3 hI3 hX3 C
              go_wp2_with fail
              refine (rfits_any _ _ _).mono ?_; rintro e' w' ⟨rfl, rfl⟩; rw [Hf.out]
              go_wp2_with fail
              refine (rnum_anyI _ _ wn xn Hwn.out Hxn.out _ (by omega) hxb).mono ?_
              rintro e w4 ⟨a4, cap4, rfl, hr4, hf4, hB4⟩
              rw [leb_length] at hr4
              have HR4 := Lib.hid hr4
              have HT4 := Lib.hid (HT3.out.below hB4)
              have Hb4 := Lib.hid (bthen Hb3.out hB4)
              rw [leb_length]
              clear hr4 hf4 hB4
              go_wp2_with (at_builtin; refine wpList_append_bytes_at rfl (.tmp 56) (.tmp 61) rfl w.heap.size _ _ ws rfl HT4.out.own a4 wn cap4 (leb wn xn) rfl HR4.out (by have := Hway.out.2.1; omega) Hb4.out.size ?_; intro v5 w5 hown hgrow hwhere; have HA5 := Lib.hid (HT4.out.append Hb4.out.size (fun g hg => (HT4.out.own.lt g hg).1) (leb_lt wn xn) (by rw [List.length_append, leb_length]; exact hown) hgrow hwhere); clear hown hgrow hwhere; go_frame)
              go_roundw
              case rel =>
                refine ⟨k + 1, some (q ++ leb wn xn), ws ++ leb wn xn, by omega, by go_num, rfl, Hway.out.next HA5.out.1 (by rw [leb_length]; omega) (fun qs hq => ?_), Hb4.out.trans HA5.out.2.1⟩
                cases hq
                exact ⟨by rw [HX.out, Hp.out], by rw [HX.out]; unfold itFits; rw [Hf.out]; simp, q, rfl, rfl⟩
              case measure => simp [intOf]; omega
    · obtain rfl : k = la := by omega
      cases r with
      | none =>
        have dk : (none : Option (List Nat)).isSome = false := rfl
        have C := Lib.hid (penOut_bad p wr (Hway.out.1.bad rfl))
        go_wp2_with fail
        refine C.out.mono ?_
        rintro e w3 ⟨rfl, rfl⟩
        go_wp2_with fail
        go_ret
        exact ⟨rfl, Hbw.out⟩
      | some qs =>
        have dk : (some qs : Option (List Nat)).isSome = true := rfl
        obtain ⟨e1, e2, e3⟩ := Hway.out.2.2 qs rfl
        obtain ⟨pv, hpv, _⟩ := Hway.out.1.pen qs rfl
        have hlen : qs.length ≤ 107 * 40 := by have := Hway.out.2.1; rw [e1]; omega
        have C := Lib.hid (penOut_ok p pv qs wr hpv (by omega))
        obtain ⟨wa, wc, hwv, hrw⟩ := own_row Hway.out.1.own Hway.out.1.lt
        subst hwv
        rw [← e1] at hrw e2
        have hlw : ws.length = qs.length := by rw [e1]
        have Hrw := Lib.hid hrw
        have He2 := Lib.hid e2
        have He3 := Lib.hid e3
        have Hlw := Lib.hid hlw
        clear hpv hrw e1 e2 e3 hlw Hway
        go_wp2_with fail
        refine C.out.mono ?_
        rintro e w3 ⟨g, rfl, hg, hG, hB3⟩
        have hR3 := row_of_blk hG Hrw.out.lt qs.length rfl (by omega)
        have C2 := Lib.hid (same_any _ _ _ _ _ _ qs qs w3 hR3 (Hrw.out.below hB3))
        rw [decide_eq_true rfl] at C2
        have HR3 := Lib.hid hR3
        have Hb3 := Lib.hid (bthen Hbw.out hB3)
        clear hg hG hB3 hR3 C
        rw [Hlw.out] at *
        go_wp2_with fail
        refine C2.out.mono ?_
        rintro e w4 ⟨rfl, qn, rfl⟩
        have C3 := Lib.hid (newRd_any _ _ _ qs _ (HR3.out.drewN qn) (by omega))
        have Hb4 := Lib.hid (below_drewN Hb3.out qn)
        clear C2
        go_wp2_with fail
        refine C3.out.mono ?_
        rintro e w5 ⟨r, g5, rfl, hr5, hg5, hn5, hR5, hG5, hB5⟩
        have HA5 := Lib.hid (show RdA w5 r (some ⟨g5, 0, none⟩) qs.length qs.length (rests f k 0) from ⟨hR5, by rw [rests_zero, ← He2.out]; exact row_of_blk hG5 Hrw.out.lt qs.length rfl (by omega), fun ad e => by cases e; exact hn5⟩)
        have Hb5 := Lib.hid (bthen Hb4.out hB5)
        have hr5' : w.heap.size ≤ r := by have := Hb4.out.size; simp at this hr5; omega
        clear hR5 hG5 hB5 C3 hr5 hg5 hn5
        go_wp2_with fail
        obtain ⟨wo, rfl⟩ : ∃ wo : World, wo = wr := ⟨_, rfl⟩
        clear Hb3 HR3 Hb4 Hrw
        go_loopw [90] (fun i wr => ∃ (j m : Nat) (ra : Option Addr) (rc : Nat), j ≤ k ∧ i = .int .i64 j ∧ RdA wr r ra m rc (rests f k j) ∧ Below w.heap.size w wr) (fun i _ => k - (intOf i).toNat)
        case atStart => exact ⟨0, _, _, _, Nat.zero_le _, rfl, HA5.out, Hb5.out⟩
        case round =>
          obtain ⟨j, m, ra, rc, hj, rfl, hA, hbw⟩ := hrel
          have HA := Lib.hid hA
          have Hb6 := Lib.hid hbw
          clear hA hbw HA5 Hb5
          by_cases hlt2 : j < k
          · obtain ⟨bb, off, rfl, hc0⟩ := Ha.out.cells (by omega)
            have Hrow := Lib.hid (hc0 j hlt2).row
            obtain ⟨c0, c1, c2, _, _, _⟩ := (hc0 j hlt2).below Hb6.out
            have Hit := Lib.hid (He3.out j hlt2)
            have Hrs := Lib.hid (rests_succ f k j hlt2)
            clear hc0
            generalize f j = x at c0 c1 c2 Hrow Hit Hrs
            have HX2 := Lib.hid (Blk.new wr 29 #[.int .i64 x.wd, .int .i64 x.v, .slice x.a x.n x.c])
            have HA2 := Lib.hid (HA.out.keptD (Kept.of_below (below_alloc wr (Obj.cells #[.int .i64 x.wd, .int .i64 x.v, .slice x.a x.n x.c] 29))))
            have Hb7 := Lib.hid (bthen Hb6.out (below_alloc wr (Obj.cells #[.int .i64 x.wd, .int .i64 x.v, .slice x.a x.n x.c] 29)))
            by_cases hz : x.wd = 0
            · have e0 : (x.wd == 0) = true := by rw [beq_iff_eq]; exact hz
              have hp := part_zero hz
              have hl := Hrow.out.length
              have Hcut := Lib.hid (show rests f k j = x.bs ++ rests f k (j + 1) by rw [Hrs.out, hp])
              have hml : m = x.n + (rests f k (j + 1)).length := by rw [← HA.out.2.1.length, Hcut.out, List.length_append, hl]
              clear hz hp hl
              go_wp2_with fail
              generalize wr.alloc (Obj.cells #[.int .i64 x.wd, .int .i64 x.v, .slice x.a x.n x.c] 29) = W at *
              generalize wr.heap.size = xb at *
              have x2 : W.cell? ⟨xb, 2, none⟩ = some (.slice x.a x.n x.c) := HX2.out.cell 2
              have C : Hid (∀ w', Kept (fun _ => False) W w' → Calls Try.prog 16 #[.pointer (some ⟨r, 0, none⟩), .int .i64 (x.n : Nat)] w' (RdGave r ra m rc (rests f k j) x.n w')) := Lib.hid (fun w' hk => rdBytes_ok r ra m rc _ x.n w' (HA2.out.keptD hk) (by omega))
              have C2 : Hid (∀ w', Kept (· = r) W w' → RowB w' ra x.n x.n x.bs → Calls Try.prog 14 #[.slice ra x.n x.n, .slice x.a x.n x.c] w' (Drawn true w')) := Lib.hid (fun w' hk hr => by
                have hb := bkept Hb7.out (Nat.le_refl _) hk (fun i hi h => by omega)
                have h := same_any _ _ _ _ _ _ x.bs x.bs w' hr (Hrow.out.below hb)
                rw [decide_eq_true rfl] at h
                exact h)
              have hF : Kept (fun _ => False) W W.drew := (Kept.refl _ _).drew
              have hne : xb ≠ r := HX2.out.unlike HA2.out.1 (by decide)
              go_region_with (first
                | ((go_at_call 16); (refine (C.out _ (by assumption)).mono ?_); (rintro e wn ⟨rfl, hAn, hRn, hKn⟩); (have hKW : Kept (· = r) W wn := hF.andThen hKn (fun _ _ h => h.elim) (fun _ _ h => h)); (have y2 : wn.cell? ⟨xb, 2, none⟩ = some (.slice x.a x.n x.c) := (HX2.out.kept hKW hne).cell 2); (have HAn := Lib.hid hAn); (have HRn := Lib.hid hRn); (clear hAn hRn hKn))
                | ((go_at_call 14); (refine (C2.out _ (by assumption) (by rw [Hcut.out] at HRn; have h := HRn.out; rwa [List.take_left' Hrow.out.length] at h)).mono ?_); (rintro e wm ⟨rfl, qm, hqm⟩); (have hKm : Kept (· = r) W wm := by rw [hqm]; exact Kept.drewN (by assumption) qm); (have HAm := Lib.hid (show RdA wm r _ _ _ _ by rw [hqm]; exact HAn.out.keptD ((Kept.refl _ _).drewN qm))); (clear hqm)))
              all_goals
                go_wp2_with fail
                go_roundw
                case rel => exact ⟨j + 1, _, _, _, by omega, by go_num, by have h := HAm.out; rw [Hcut.out, List.drop_left' Hrow.out.length] at h; exact h, bkept Hb7.out (Nat.le_refl _) hKm (fun i hi h => by omega)⟩
                case measure => simp [intOf]; omega
            · have e0 : (x.wd == 0) = false := by rw [beq_eq_false_iff_ne]; exact hz
              have hp := part_num hz
              have hfit : fitB x.wd x.v = true := by
                have h := Hit.out
                unfold itFits at h
                rw [decide_eq_false hz] at h
                simpa using h
              have hw := of_decide_eq_true hfit
              obtain ⟨wn, hwn⟩ : ∃ n : Nat, x.wd = n := ⟨x.wd.toNat, by omega⟩
              obtain ⟨xn, hxn⟩ : ∃ n : Nat, x.v = n := ⟨x.v.toNat, by omega⟩
              rw [hwn, hxn] at hp hfit
              have hw1 : 1 ≤ wn := by omega
              have hw7 : wn ≤ 7 := by omega
              have hl := leb_length wn xn
              have Hcut := Lib.hid (show rests f k j = leb wn xn ++ rests f k (j + 1) by rw [Hrs.out, hp]; rfl)
              have hml : m = wn + (rests f k (j + 1)).length := by rw [← HA.out.2.1.length, Hcut.out, List.length_append, hl]
              have Hl := Lib.hid hl
              have Hb := Lib.hid (leb_back wn xn hfit)
              have Hwn := Lib.hid hwn
              have Hxn := Lib.hid hxn
              clear hz hp hl hfit hw hwn hxn
              go_wp2_with fail
              generalize wr.alloc (Obj.cells #[.int .i64 x.wd, .int .i64 x.v, .slice x.a x.n x.c] 29) = W at *
              generalize wr.heap.size = xb at *
              have x0 : W.cell? ⟨xb, 0, none⟩ = some (.int .i64 (wn : Nat)) := by rw [← Hwn.out]; exact HX2.out.cell 0
              have x1 : W.cell? ⟨xb, 1, none⟩ = some (.int .i64 (xn : Nat)) := by rw [← Hxn.out]; exact HX2.out.cell 1
              have C : Hid (∀ w', Kept (fun _ => False) W w' → Calls Try.prog 17 #[.pointer (some ⟨r, 0, none⟩), .int .i64 (wn : Nat)] w' (RdTold r ra m rc (rests f k j) wn w')) := Lib.hid (fun w' hk => rdNum_ok r ra m rc _ wn w' (HA2.out.keptD hk) hw1 hw7 (by omega))
              have Ht := Lib.hid (show num ((rests f k j).take wn) = xn by rw [Hcut.out, List.take_left' Hl.out]; exact Hb.out)
              have hF : Kept (fun _ => False) W W.drew := (Kept.refl _ _).drew
              have hne : xb ≠ r := HX2.out.unlike HA2.out.1 (by decide)
              go_region_with ((go_at_call 17); (refine (C.out _ (by assumption)).mono ?_); (rintro e wm ⟨rfl, hAm, hKm⟩); (rw [Ht.out]); (have hKW : Kept (· = r) W wm := hF.andThen hKm (fun _ _ h => h.elim) (fun _ _ h => h)); (have y1 : wm.cell? ⟨xb, 1, none⟩ = some (.int .i64 (xn : Nat)) := by rw [← Hxn.out]; exact (HX2.out.kept hKW hne).cell 1); (have HAm := Lib.hid hAm); (clear hAm hKm))
              all_goals
                go_wp2_with fail
                go_roundw
                case rel => exact ⟨j + 1, _, _, _, by omega, by go_num, by have h := HAm.out; rw [Hcut.out, List.drop_left' Hl.out] at h; exact h, bkept Hb7.out (Nat.le_refl _) hKW (fun i hi h => by omega)⟩
                case measure => simp [intOf]; omega
          · obtain rfl : j = k := by omega
            have hm0 : m = 0 := by have h := HA.out.2.1.length; rw [rests_full] at h; exact h.symm
            subst hm0
            have C := Lib.hid (rest_any r _ _ _ _ wr HA.out.1)
            have C2 := Lib.hid (done_any r _ _ _ _ wr HA.out.1)
            rw [doneN_ok] at C2
            go_wp2_with fail
            refine C.out.mono ?_
            rintro e w8 ⟨rfl, rfl⟩
            go_wp2_with fail
            refine C2.out.mono ?_
            rintro e w8 ⟨rfl, rfl⟩
            go_wp2_with fail
            go_ret
            exact ⟨rfl, Hb6.out⟩

theorem walkCodecWrites (a : Option Addr) (la ca : Nat) (f : Nat → ItemR) (w : World) (ha : RowIt w a la ca f) :
    Calls Try.prog 3 #[.slice a la ca] w fun e w' => e = .returned (.bool true) ∧ Below w.heap.size w w' := by
  have m1 := ha.max
  have m2 := ha.le
  unfold maxLen at m1
  by_cases ho : 40 < la
  · exact walkWrites_out a la ca w (by omega) ho
  · exact walkWrites_in a la ca f w ha (by omega)

end Go.Proofs.Ytamenbchebfplaa
