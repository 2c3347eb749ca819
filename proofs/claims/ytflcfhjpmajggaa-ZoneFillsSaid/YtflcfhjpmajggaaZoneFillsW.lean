/-
  The walk of ZoneFills.
-/
import Derived.Test.YtflcfhjpmajggaaZoneG
import Derived.SliceStrings
namespace Go.Proofs.Ytflcfhjpmajggaa
open Go.RowKit
set_option linter.unusedVariables false
set_option linter.unnecessarySimpa false
set_option linter.unusedSimpArgs false

/-- A slice of strings as it reads. -/
structure RowStr (w : World) (a : Option Addr) (len cap : Nat) (f : Nat → ByteArray) : Prop where
  le : len ≤ cap
  max : cap ≤ maxLen
  cells : 0 < len → ∃ b off, a = some ⟨b, off, none⟩ ∧ ∀ i, i < len → w.cell? ⟨b, off + i, none⟩ = some (.string (f i))
theorem RowStr.below {w w' : World} {a : Option Addr} {len cap : Nat} {f : Nat → ByteArray} (h : RowStr w a len cap f) (hb : Below w.heap.size w w') : RowStr w' a len cap f := by
  obtain ⟨h1, h2, h3⟩ := h
  refine ⟨h1, h2, fun h0 => ?_⟩
  obtain ⟨b, off, rfl, hc⟩ := h3 h0
  exact ⟨b, off, rfl, fun i hi => (hb.cell (p := ⟨b, off + i, none⟩) (block_lt_of_cell (hc i hi))).trans (hc i hi)⟩
section
open Go.ChangeShapes Go.WideShapes
variable {H : Type} {enc : TypeId × Value → H} {w : World}
theorem Try.cellsStr6 : Try.prog.cellsOf 9 = 1 := by kernel_rfl
theorem open_strs {fuel : Nat} {a : Option Addr} {len cap : Nat} {x : DataW H × List MemPlace} (h : DataW.trod enc Try.prog w 0 (fun _ => true) true fuel 47 [.slice a len cap] = some x) : ∃ f, RowStr w a len cap f := by
  rcases open_strings Try.underlying47 Try.underlying9 Try.cellsStr6 h with ⟨hcs, _⟩ | ⟨ad, l, c, ss, hcs, _, hl, hm, hz, _, hcell, _⟩
  · simp at hcs
    obtain ⟨rfl, rfl, rfl⟩ := hcs
    exact ⟨fun _ => ByteArray.empty, Nat.le_refl _, Nat.zero_le _, fun h => absurd h (by decide)⟩
  · simp at hcs
    obtain ⟨rfl, rfl, rfl⟩ := hcs
    have hss : ss.length = cap := by simpa using hz
    refine ⟨fun i => ss.getD i ByteArray.empty, hl, hm, fun h0 => ?_⟩
    obtain ⟨b, off, spot⟩ := ad
    have hs : spot = none := by
      have h := hcell 0 (by omega)
      simpa [Addr.add] using World.cell?_spot h
    subst hs
    refine ⟨b, off, rfl, fun i hi => ?_⟩
    have h := hcell i (by omega)
    rwa [Addr.add_mid b off i] at h
end

/-- A zone with the first m of these. -/
def zS (size : Int) (f : Nat → ByteArray) (m : Nat) : ZoR := ⟨size, 0, false, 0, (List.range m).map (fun i => Value.string (f i))⟩
section
variable {size : Int} {f : Nat → ByteArray} {m : Nat}
theorem zS_len : (zS size f m).xs.length = m := by simp [zS]
theorem zS_zero : zS size f 0 = zo0 size := rfl
theorem zS_ok (h1 : 1 ≤ size) (h2 : size ≤ 64) (hm : (m : Int) ≤ size) : ZOk (zS size f m) :=
  ⟨⟨h1, h2⟩, by rw [zS_len]; exact hm, ⟨Int.le_refl _, by rw [zS_len]; show (0 : Int) ≤ m; omega⟩, .inl rfl, fun u hu => by obtain ⟨i, _, rfl⟩ := List.mem_map.1 hu; rfl⟩
theorem zS_ref : refI (zS size f m) = 0 := rfl
theorem zS_st : stI (zS size f m) = if (m : Int) = size then 2 else if (m : Int) = 0 then 0 else 1 := by
  unfold stI
  rw [if_neg (by show ¬ ((0 : Int) ≠ 0); decide), zS_len]
  show (if false = true ∨ (m : Int) = size then (2 : Int) else _) = _
  by_cases e : (m : Int) = size
  · rw [if_pos (.inr e), if_pos e]
  · rw [if_neg (by rintro (h | h); · cases h
                   · exact e h), if_neg e]
theorem zS_ap (h : (m : Int) < size) : apE (zS size f m) = 0 ∧ apO (zS size f m) = (m : Int) ∧ apZ (zS size f m) (.string (f m)) = zS size f (m + 1) := by
  have hE : apE (zS size f m) = 0 := by
    unfold apE
    rw [if_neg (by rw [zS_ref]; decide), if_neg]
    rw [zS_st, if_neg (by omega)]
    split <;> decide
  refine ⟨hE, by unfold apO; rw [if_pos hE, zS_len], ?_⟩
  unfold apZ
  rw [if_pos hE]
  simp [zS, List.range_succ]
theorem zS_full (h : (m : Int) = size) (x : Value) : apE (zS size f m) = 17 ∧ apO (zS size f m) = 0 ∧ apZ (zS size f m) x = zS size f m := by
  have hE : apE (zS size f m) = 17 := by
    unfold apE
    rw [if_neg (by rw [zS_ref]; decide), if_pos (by rw [zS_st, if_pos h])]
  exact ⟨hE, by unfold apO; rw [if_neg (by rw [hE]; decide)], by unfold apZ; rw [if_neg (by rw [hE]; decide)]⟩
theorem zS_rd {i : Nat} (h : i < m) : rdE (zS size f m) (i : Int) = 0 ∧ rdV (.string ⟨#[]⟩) (zS size f m) (i : Int) = .string (f i) := by
  have hE : rdE (zS size f m) (i : Int) = 0 := by
    unfold rdE holB
    rw [if_neg (by show ¬ ((0 : Int) = 4); decide), if_pos]
    rw [zS_len]
    simp [h]
  refine ⟨hE, ?_⟩
  unfold rdV
  rw [if_pos hE, Int.toNat_natCast]
  simp [zS, List.getD, h]
end

set_option maxRecDepth 100000 in
set_option maxHeartbeats 2000000 in
theorem walkZoneFills_n (size : Int) (a : Option Addr) (len cap : Nat) (w : World) (h : size < 1 ∨ 64 < size) : Calls Try.prog 6 #[.int .i64 size, .slice a len cap] w fun e w' => e = .returned (.bool true) ∧ Below w.heap.size w w' := by
  go_enter Try.func6, Try.ntmps6
  go_wp2_with fail
  refine (anchor6_any _).mono ?_
  rintro e w1 ⟨rfl, hb⟩
  have HB1 := Lib.hid hb
  clear hb
  go_wp2_with fail
  refine (znewS_no size _ h).mono ?_
  rintro e w2 ⟨rfl, rfl⟩
  go_wp2_with fail
  go_ret
  exact ⟨rfl, HB1.out⟩

set_option maxRecDepth 100000 in
set_option maxHeartbeats 2000000 in
theorem walkZoneFills_l (size : Int) (a : Option Addr) (len cap : Nat) (w : World) (h1 : 1 ≤ size) (h2 : size ≤ 64) (hl : 80 < len) : Calls Try.prog 6 #[.int .i64 size, .slice a len cap] w fun e w' => e = .returned (.bool true) ∧ Below w.heap.size w w' := by
  have dl : decide ((80 : Int) < (len : Int)) = true := decide_eq_true (by omega)
  go_enter Try.func6, Try.ntmps6
  go_wp2_with fail
  refine (anchor6_any _).mono ?_
  rintro e w1 ⟨rfl, hb⟩
  have HB1 := Lib.hid hb
  clear hb
  go_wp2_with fail
  refine (znewS_ok size _ h1 h2).mono ?_
  rintro e w2 ⟨rfl, rfl⟩
  go_wp2_with fail
  go_ret
  exact ⟨rfl, bthen HB1.out (below_alloc _ _)⟩

set_option maxRecDepth 100000 in
set_option maxHeartbeats 4000000 in
theorem walkZoneFills_t (size : Int) (a : Option Addr) (len cap : Nat) (f : Nat → ByteArray) (w : World) (h1 : 1 ≤ size) (h2 : size ≤ 64) (hrow : RowStr w a len cap f) (hl : len ≤ 80) : Calls Try.prog 6 #[.int .i64 size, .slice a len cap] w fun e w' => e = .returned (.bool true) ∧ Below w.heap.size w w' := by
  have Hrow := Lib.hid hrow
  have hcap : len ≤ cap ∧ cap ≤ 9223372036854775807 := by have := hrow.max; unfold maxLen at this; exact ⟨hrow.le, this⟩
  obtain ⟨hc1, hc2⟩ := hcap
  clear hrow
  obtain ⟨S, rfl⟩ := Int.eq_ofNat_of_zero_le (show 0 ≤ size by omega)
  go_enter Try.func6, Try.ntmps6
  go_wp2_with fail
  refine (anchor6_any _).mono ?_
  rintro e w1 ⟨rfl, hb⟩
  have HB1 := Lib.hid hb
  clear hb
  go_wp2_with fail
  refine (znewS_ok ((S : Nat) : Int) _ h1 h2).mono ?_
  rintro e w2 ⟨rfl, rfl⟩
  have HZ2 := Lib.hid (zat_new (T := 71) (E := 9) (lo := w.heap.size) w1 ((S : Nat) : Int) HB1.out.size)
  have HB2 := Lib.hid (bthen HB1.out (below_alloc w1 (Obj.cells (zoA (zo0 ((S : Nat) : Int)) (.slice none 0 0)) 71)))
  clear HB1
  have dl : decide ((80 : Int) < (len : Int)) = false := decide_eq_false (by omega)
  go_upto_region 6 with fail
  clear dl
  generalize w1.alloc (Obj.cells (zoA (zo0 ((S : Nat) : Int)) (.slice none 0 0)) 71) = w2 at *
  generalize w1.heap.size = A at *
  go_wp2_with fail
  go_loopw [35] (fun i wr => ∃ (j : Nat) (v : Value), j ≤ len ∧ i = .int .i64 j ∧ ZAt 71 9 w.heap.size wr A v (zS (S : Int) f (min j S)) ∧ Below w.heap.size w wr) (fun i _ => len - (intOf i).toNat)
  case atStart => exact ⟨0, _, Nat.zero_le _, rfl, by rw [Nat.zero_min]; exact HZ2.out, HB2.out⟩
  case round =>
    obtain ⟨j, v, hj, rfl, hZ, hB⟩ := hrel
    have HZr := Lib.hid hZ
    have HBr := Lib.hid hB
    clear hZ hB HZ2 HB2
    by_cases hlt : j < len
    · obtain ⟨b, off, rfl, hat⟩ := (Hrow.out.below HBr.out).cells (by omega)
      have hc := hat j hlt
      clear hat
      have hok := zS_ok (f := f) (m := min j S) h1 h2 (by omega)
      have Hok := Lib.hid hok
      clear hok
      go_wp2_with fail
      refine (zapS (f j) HZr.out Hok.out HBr.out.size).mono ?_
      rintro e W1 ⟨rfl, hT⟩
      have HBw := Lib.hid (show Below w.heap.size w W1 by obtain ⟨_, _, hk, _⟩ := hT; exact HZr.out.bel HBr.out (Nat.le_refl _) hk)
      have HT := Lib.hid hT
      clear hT hc
      by_cases hjs : (j : Int) < (S : Int)
      · obtain ⟨e1, e2, e3⟩ := zS_ap (f := f) (m := j) hjs
        rw [show min j S = j by omega] at HT
        rw [show min j S = j by omega, e1, e2]
        rw [e3] at HT
        clear e1 e2 e3 HZr
        go_wp2_with fail
        go_roundw
        case rel => 
          obtain ⟨v', hz', _, _⟩ := HT.out
          exact ⟨j + 1, v', by omega, by go_num, by rw [show min (j + 1) S = j + 1 by omega]; exact hz', HBw.out⟩
        case measure => simp [intOf]; omega
      · obtain ⟨e1, e2, e3⟩ := zS_full (f := f) (m := S) (size := (S : Int)) rfl (.string (f j))
        rw [show min j S = S by omega] at HT
        rw [show min j S = S by omega, e1, e2]
        rw [e3] at HT
        have hjs' : (S : Int) ≤ (j : Int) := by omega
        clear e1 e2 e3 HZr hjs
        go_wp2_with fail
        go_roundw
        case rel => 
          obtain ⟨v', hz', _, _⟩ := HT.out
          exact ⟨j + 1, v', by omega, by go_num, by rw [show min (j + 1) S = S by omega]; exact hz', HBw.out⟩
        case measure => simp [intOf]; omega
    · obtain rfl : j = len := by omega
      have hok := zS_ok (f := f) (m := min j S) h1 h2 (by omega)
      have Hok := Lib.hid hok
      have hmin : min (j : Int) (S : Int) = ((min j S : Nat) : Int) := by omega
      have hm1 : min j S ≤ j := by omega
      have Hm1 := Lib.hid hm1
      have Hms := Lib.hid (show (((min j S : Nat) : Int) = (S : Int)) ↔ (S : Int) ≤ (j : Int) by omega)
      have hm64 : ((min j S : Nat) : Int) ≤ 64 := by omega
      clear hok hm1
      generalize min j S = m at *
      go_wp2_with fail
      go_loopw [76] (fun i wr => ∃ (i0 : Nat), i0 ≤ m ∧ i = .int .i64 i0 ∧ ZAt 71 9 w.heap.size wr A v (zS (S : Int) f m) ∧ Below w.heap.size w wr) (fun i _ => m - (intOf i).toNat)
      case atStart => exact ⟨0, Nat.zero_le _, rfl, HZr.out, HBr.out⟩
      case round =>
        obtain ⟨i, hi, rfl, hZ, hB⟩ := hrel
        have HZ3 := Lib.hid hZ
        have HB3 := Lib.hid hB
        clear hZ hB HZr HBr
        by_cases hlt2 : i < m
        · have hil : i < j := by have := Hm1.out; omega
          obtain ⟨b, off, rfl, hat⟩ := (Hrow.out.below HB3.out).cells (by omega)
          have hc := hat i hil
          obtain ⟨r1, r2⟩ := zS_rd (size := (S : Int)) (f := f) hlt2
          have R1 := Lib.hid r1
          have R2 := Lib.hid r2
          generalize f i = Z at *
          clear hat r1 r2
          go_wp2_with fail
          refine (zrdS (i : Int) HZ3.out Hok.out).mono ?_
          rintro e W1 ⟨rfl, rfl⟩
          rw [R1.out, R2.out]
          go_wp2_with fail
          go_roundw
          case rel => exact ⟨i + 1, by omega, by go_num, HZ3.out, HB3.out⟩
          case measure => simp [intOf]; omega
        · obtain rfl : i = m := by omega
          go_wp2_with fail
          refine (zstS HZ3.out).mono ?_
          rintro e W1 ⟨rfl, hb⟩
          have HZ4 := Lib.hid (HZ3.out.below hb)
          have HB4 := Lib.hid (bthen HB3.out hb)
          have hst : (stI (zS (S : Int) f i) == 2) = decide ((S : Int) ≤ (j : Int)) := by
            rw [zS_st]
            by_cases e : ((i : Nat) : Int) = (S : Int)
            · rw [if_pos e, decide_eq_true (Hms.out.1 e)]; rfl
            · rw [if_neg e, decide_eq_false (fun h => e (Hms.out.2 h))]
              split <;> rfl
          have Hst := Lib.hid hst
          clear hb HZ3 HB3 hst
          generalize stI (zS (S : Int) f i) = ST at *
          have hfin : ∀ B : Bool, decide ((S : Int) ≤ (j : Int)) = B → (ST == 2) = B := fun B h => by rw [Hst.out, h]
          have Hfin := Lib.hid hfin
          clear hfin
          by_cases hsj : (S : Int) ≤ (j : Int)
          · have q1 : (ST == 2) = true := Hfin.out true (decide_eq_true hsj)
            have q2 : decide (S ≤ j) = true := decide_eq_true (by omega)
            clear hsj Hms Hst Hfin
            go_wp2_with fail
            refine (zrsS HZ4.out).mono ?_
            rintro e W5 ⟨rfl, hT⟩
            rw [zS_ref]
            obtain ⟨v5, hz5, hk5, _⟩ := hT
            have HB5 := Lib.hid (HZ4.out.bel HB4.out (Nat.le_refl _) hk5)
            rw [show rsZ (zS (S : Int) f i) = zS (S : Int) f 0 from rfl] at hz5
            have HZ5 := Lib.hid hz5
            clear hz5 hk5
            go_wp2_with fail
            refine (zlenS HZ5.out).mono ?_
            rintro e W6 ⟨rfl, rfl⟩
            rw [show (zS (S : Int) f 0).xs.length = 0 from rfl]
            go_wp2_with fail
            refine (zstS HZ5.out).mono ?_
            rintro e W7 ⟨rfl, hb7⟩
            rw [show stI (zS (S : Int) f 0) = 0 by rw [zS_st, if_neg (by omega), if_pos (by decide)]]
            have HB7 := Lib.hid (bthen HB5.out hb7)
            clear hb7
            go_wp2_with fail
            go_ret
            exact ⟨rfl, HB7.out⟩
          · have q1 : (ST == 2) = false := Hfin.out false (decide_eq_false hsj)
            have q2 : decide (S ≤ j) = false := decide_eq_false (by omega)
            clear hsj Hms Hst Hfin
            go_wp2_with fail
            refine (zrsS HZ4.out).mono ?_
            rintro e W5 ⟨rfl, hT⟩
            rw [zS_ref]
            obtain ⟨v5, hz5, hk5, _⟩ := hT
            have HB5 := Lib.hid (HZ4.out.bel HB4.out (Nat.le_refl _) hk5)
            rw [show rsZ (zS (S : Int) f i) = zS (S : Int) f 0 from rfl] at hz5
            have HZ5 := Lib.hid hz5
            clear hz5 hk5
            go_wp2_with fail
            refine (zlenS HZ5.out).mono ?_
            rintro e W6 ⟨rfl, rfl⟩
            rw [show (zS (S : Int) f 0).xs.length = 0 from rfl]
            go_wp2_with fail
            refine (zstS HZ5.out).mono ?_
            rintro e W7 ⟨rfl, hb7⟩
            rw [show stI (zS (S : Int) f 0) = 0 by rw [zS_st, if_neg (by omega), if_pos (by decide)]]
            have HB7 := Lib.hid (bthen HB5.out hb7)
            clear hb7
            go_wp2_with fail
            go_ret
            exact ⟨rfl, HB7.out⟩

theorem walkZoneFills (size : Int) (a : Option Addr) (len cap : Nat) (f : Nat → ByteArray) (w : World) (h0 : (Lit.int .i64 size).wf = true) (h1 : RowStr w a len cap f) : Calls Try.prog 6 #[.int .i64 size, .slice a len cap] w fun e w' => e = .returned (.bool true) ∧ Below w.heap.size w w' := by
  by_cases h : size < 1 ∨ 64 < size
  · exact walkZoneFills_n size a len cap w h
  · by_cases hl : 80 < len
    · exact walkZoneFills_l size a len cap w (by omega) (by omega) hl
    · exact walkZoneFills_t size a len cap f w (by omega) (by omega) h1 (by omega)

end Go.Proofs.Ytflcfhjpmajggaa
