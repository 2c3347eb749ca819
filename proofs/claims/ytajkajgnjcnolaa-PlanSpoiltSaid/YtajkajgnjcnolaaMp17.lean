import Derived.Test.YtajkajgnjcnolaaMp09
import Derived.Test.YtajkajgnjcnolaaMp13
import Derived.Test.YtajkajgnjcnolaaMp14
import Derived.Test.YtajkajgnjcnolaaMp15
import Derived.Test.YtajkajgnjcnolaaMp16
namespace Go.Proofs.Ytajkajgnjcnolaa
open Go.RowKit
set_option linter.unusedVariables false
set_option linter.unnecessarySimpa false
set_option linter.unusedSimpArgs false
def rz (z : ZsR) : R7z := ⟨z.ss, z.safe, stS z, z.fin⟩
def dd7 (d : DvR) : R7d := ⟨d.size, d.opn, d.count, d.down⟩
def up1 (d : DvR) : DvR := { d with count := d.count + 1 }
structure Sane (d : DvR) (zs : List ZsR) : Prop where
  ok : ∀ z ∈ zs, ZsOk z ∧ z.size = d.size
  len : zs.length ≤ 1000
structure OutR where
  o : Int
  e : Int
  d : DvR
  zs : List ZsR
def apSp (d : DvR) (zs : List ZsR) (i : Int) (s : List Nat) : OutR :=
  if cmdE d zs.length i ≠ 0 then ⟨0, cmdE d zs.length i, d, zs⟩ else if stS (zsat zs i) = 0 ∧ ¬ (opD zs : Int) < d.opn then ⟨0, 33, up1 d, zs⟩ else ⟨apOS (zsat zs i), apES (zsat zs i), up1 d, zs.set i.toNat (apSS (zsat zs i) s)⟩
def rsSp (d : DvR) (zs : List ZsR) (i : Int) : OutR := if cmdE d zs.length i ≠ 0 then ⟨0, cmdE d zs.length i, d, zs⟩ else ⟨0, refS (zsat zs i), up1 d, zs.set i.toNat (rsS (zsat zs i))⟩
def fnSp (d : DvR) (zs : List ZsR) (i : Int) : OutR := if cmdE d zs.length i ≠ 0 then ⟨0, cmdE d zs.length i, d, zs⟩ else ⟨0, refS (zsat zs i), up1 d, zs.set i.toNat (fnS (zsat zs i))⟩
def rdSp (d : DvR) (zs : List ZsR) (i off : Int) : OutR := if cmdE d zs.length i ≠ 0 then ⟨0, cmdE d zs.length i, d, zs⟩ else ⟨0, rdES (zsat zs i) off, up1 d, zs⟩
def rdV7 (d : DvR) (zs : List ZsR) (i off : Int) : List Nat := if cmdE d zs.length i ≠ 0 then zeros 64 else rdVS (zsat zs i) off
def flSp (d : DvR) (zs : List ZsR) : OutR := if d.down = true then ⟨0, 34, d, zs⟩ else ⟨0, 0, up1 d, zs.mapIdx (fun _ => flS)⟩
def crSp (d : DvR) (zs : List ZsR) : OutR := ⟨0, 0, { d with down := true }, zs⟩
def rvSp (d : DvR) (zs : List ZsR) (ks : List Int) : OutR := if d.down = true then ⟨0, 0, { d with down := false }, zs.mapIdx (fun i z => crS z (ks.getD i 0))⟩ else ⟨0, 0, d, zs⟩
def faSp (d : DvR) (zs : List ZsR) (i st : Int) : OutR := if dhB zs.length i = true then ⟨0, 0, d, zs.set i.toNat (faS (zsat zs i) st)⟩ else ⟨0, 13, d, zs⟩
def spSp (d : DvR) (zs : List ZsR) (i off : Int) (p : List Nat) : OutR := if dhB zs.length i = true then ⟨0, chE7 (zsat zs i) off, d, zs.set i.toNat (chS7 (zsat zs i) off p)⟩ else ⟨0, 13, d, zs⟩
section
variable {z : ZsR}
theorem stS_cases (hok : ZsOk z) : (z.failed = 0 ∧ stS z ≤ 2 ∧ 0 ≤ stS z) ∨ (z.failed = 3 ∧ stS z = 3) ∨ (z.failed = 4 ∧ stS z = 4) := by
  rcases hok.failed with h | h | h
  · refine .inl ⟨h, ?_⟩
    rw [stS_no h]
    split
    · decide
    · split <;> decide
  · exact .inr (.inl ⟨h, by rw [stS_yes (by rw [h]; decide), h]⟩)
  · exact .inr (.inr ⟨h, by rw [stS_yes (by rw [h]; decide), h]⟩)
theorem rz_ref (hok : ZsOk z) : f7E (rz z) = refS z := by
  unfold f7E refS
  show (if stS z = 4 then (32 : Int) else if stS z = 3 then 30 else 0) = _
  rcases stS_cases hok with ⟨h1, h2, h3⟩ | ⟨h1, h2⟩ | ⟨h1, h2⟩
  · rw [h1, if_neg (by omega), if_neg (by omega)]; rfl
  · rw [h1, h2]
  · rw [h1, h2]
theorem rz_four (hok : ZsOk z) : z.failed = 4 ↔ stS z = 4 := by
  rcases stS_cases hok with ⟨h1, h2, h3⟩ | ⟨h1, h2⟩ | ⟨h1, h2⟩ <;> omega
theorem rz_zero {size : Int} (h : 1 ≤ size ∧ size ≤ 64) : rz (zs0 size) = z70 := by
  unfold rz z70
  have : stS (zs0 size) = 0 := by
    rw [stS_no rfl]
    show (if (false = true) ∨ ((0 : Nat) : Int) = size then (2 : Int) else if ((0 : Nat) : Int) = 0 then 0 else 1) = 0
    rw [if_neg (by rintro (e | e); · cases e
                   · omega), if_pos (by decide)]
  rw [this]; rfl
theorem rz_rs (hok : ZsOk z) (h : refS z = 0) : rz (rsS z) = z70 := by unfold rsS; rw [if_pos h]; exact rz_zero hok.size
theorem rs_no (h : refS z ≠ 0) : rsS z = z := by unfold rsS; rw [if_neg h]
theorem fn_no (h : refS z ≠ 0) : fnS z = z := by unfold fnS; rw [if_neg h]
theorem rz_fn (hok : ZsOk z) (h : refS z = 0) : rz (fnS z) = fn7Z (rz z) := by
  have hf := (refS_zero hok).1 h
  unfold fnS
  rw [if_pos h]
  unfold rz fn7Z
  have : stS { z with fin := true } = 2 := by rw [stS_no (by exact hf), if_pos (.inl rfl)]
  rw [this]
theorem rz_fa (hok : ZsOk z) (st : Int) : rz (faS z st) = fa7Z (rz z) st := by
  unfold faS fa7Z
  have h4 := rz_four hok
  by_cases e : st = 4 ∨ st = 3 ∧ z.failed ≠ 4
  · rw [if_pos e, if_pos (show st = 4 ∨ st = 3 ∧ (rz z).state ≠ 4 from e.imp id (fun e => ⟨e.1, fun e' => e.2 (h4.2 e')⟩))]
    have hst : st = 3 ∨ st = 4 := e.elim .inr (fun e => .inl e.1)
    unfold rz
    have : stS { z with failed := st } = st := stS_yes (by show st ≠ 0; omega)
    rw [this]
  · rw [if_neg e, if_neg (show ¬ (st = 4 ∨ st = 3 ∧ (rz z).state ≠ 4) from fun e' => e (e'.imp id (fun e' => ⟨e'.1, fun e'' => e'.2 (h4.1 e'')⟩)))]
theorem ap_no (h : apES z ≠ 0) (s : List Nat) : apSS z s = z := by unfold apSS; rw [if_neg h]
theorem rz_ap (hok : ZsOk z) (h : apES z = 0) (s : List Nat) : rz (apSS z s) = ap7Z z.size (rz z) s := by
  obtain ⟨h1, h2, h3⟩ := apES_zero hok h
  unfold apSS
  rw [if_pos h]
  unfold rz ap7Z
  have : stS { z with ss := z.ss ++ [s] } = if ((z.ss.length + 1 : Nat) : Int) = z.size then 2 else 1 := by
    rw [stS_no (by exact h1)]
    show (if z.fin = true ∨ ((z.ss ++ [s]).length : Int) = z.size then (2 : Int) else if ((z.ss ++ [s]).length : Int) = 0 then 0 else 1) = _
    rw [List.length_append, List.length_singleton, h2]
    by_cases e : ((z.ss.length + 1 : Nat) : Int) = z.size
    · rw [if_pos e, if_pos (.inr e)]
    · rw [if_neg e, if_neg (by rintro (e' | e'); · cases e'
                               · exact e e'), if_neg (by omega)]
  rw [this]
theorem rz_cr (hok : ZsOk z) (k : Int) : rz (crS z k) = c7Z (rz z) k z.size := by
  obtain ⟨n1, n2, n3⟩ := keepS_bd hok k
  have hn : c7N (rz z) k = keepS z k := rfl
  have hl : (z.ss.take (keepS z k)).length = keepS z k := by simp; omega
  unfold c7Z
  rw [hn]
  have : stS (crS z k) = c7S (rz z) z.size (keepS z k) := by
    unfold c7S
    show stS (crS z k) = if stS z > 2 then stS z else if z.fin = true ∨ ((keepS z k : Nat) : Int) = z.size then 2 else if keepS z k = 0 then 0 else 1
    rcases stS_cases hok with ⟨h1, h2, h3⟩ | ⟨h1, h2⟩ | ⟨h1, h2⟩
    · rw [if_neg (show ¬ stS z > 2 by omega), stS_no (show (crS z k).failed = 0 from h1)]
      show (if z.fin = true ∨ (((z.ss.take (keepS z k)).length : Nat) : Int) = z.size then (2 : Int) else if (((z.ss.take (keepS z k)).length : Nat) : Int) = 0 then 0 else 1) = _
      rw [hl]
      by_cases e : z.fin = true ∨ ((keepS z k : Nat) : Int) = z.size
      · rw [if_pos e, if_pos e]
      · rw [if_neg e, if_neg e]
        by_cases e0 : keepS z k = 0
        · rw [if_pos e0, if_pos (by omega)]
        · rw [if_neg e0, if_neg (by omega)]
    · rw [if_pos (show stS z > 2 by omega), h2, stS_yes (show (crS z k).failed ≠ 0 by show z.failed ≠ 0; rw [h1]; decide)]; exact h1
    · rw [if_pos (show stS z > 2 by omega), h2, stS_yes (show (crS z k).failed ≠ 0 by show z.failed ≠ 0; rw [h1]; decide)]; exact h1
  unfold rz at *
  rw [this]
  rfl
theorem rz_ch (off : Nat) (h : holS z (off : Int) = true) (p : List Nat) : rz (chS7 z (off : Int) p) = { rz z with ss := z.ss.set off (zx (z.ss.getD off []) p 64) } := by
  unfold chS7
  rw [if_pos h, Int.toNat_natCast]
  unfold rz
  have : stS { z with ss := z.ss.set off (zx (z.ss.getD off []) p 64) } = stS z := by unfold stS; simp only [List.length_set]
  rw [this]
theorem ch_no (off : Int) (h : holS z off = false) (p : List Nat) : chS7 z off p = z := by unfold chS7; rw [if_neg (by rw [h]; decide)]
end
def Doc (lo : Nat) (w : World) (v : Value) (zs : List ZsR) : Prop := ∃ l, Row7 lo w v l ∧ l.map Prod.fst = zs.map rz
section
variable {lo : Nat} {w w' : World} {v : Value} {zs : List ZsR} {d : DvR}
theorem Doc.below (h : Doc lo w v zs) (hb : Below w.heap.size w w') : Doc lo w' v zs := by
  obtain ⟨l, h1, h2⟩ := h
  exact ⟨l, h1.below hb, h2⟩
theorem doc7_len {l : List (R7z × Value)} (h : l.map Prod.fst = zs.map rz) : l.length = zs.length := by
  have := congrArg List.length h
  rwa [List.length_map, List.length_map] at this
theorem doc_at {l : List (R7z × Value)} (h : l.map Prod.fst = zs.map rz) {k : Nat} {z : ZsR} (hz : zs[k]? = some z) : ∃ u, l[k]? = some (rz z, u) := by
  have h1 := congrArg (fun x => x[k]?) h
  simp only [List.getElem?_map, hz] at h1
  cases hl : l[k]? with
  | none => rw [hl] at h1; cases h1
  | some p =>
    rw [hl] at h1
    injection h1 with h1
    exact ⟨p.2, by obtain ⟨a, b⟩ := p; cases h1; rfl⟩
theorem doc_set {l : List (R7z × Value)} (h : l.map Prod.fst = zs.map rz) (k : Nat) (z' : ZsR) (u : Value) {x : R7z} (hx : rz z' = x) : (l.set k (x, u)).map Prod.fst = (zs.set k z').map rz := by
  rw [List.map_set, List.map_set, h, hx]
theorem doc_op {l : List (R7z × Value)} (h : l.map Prod.fst = zs.map rz) : op7 l = opD zs := by
  unfold op7 opD
  have h1 : l.countP (fun p => decide (p.1.state = 1)) = (l.map Prod.fst).countP (fun z => decide (z.state = 1)) := by rw [List.countP_map]; rfl
  rw [h1, h, List.countP_map]
  rfl
theorem doc_cmd (n : Nat) (i : Int) : b7E (dd7 d) n i = cmdE d n i := by
  unfold b7E cmdE dhB
  show (if d.down = true then (34 : Int) else if i < 0 ∨ (n : Int) ≤ i then 13 else 0) = _
  by_cases h : d.down = true
  · rw [if_pos h, if_pos h]
  · rw [if_neg h, if_neg h]
    by_cases h2 : i < 0 ∨ (n : Int) ≤ i
    · rw [if_pos h2, if_neg (by simp; omega)]
    · rw [if_neg h2, if_pos (by simp; omega)]
theorem cmd_in {n : Nat} {i : Int} (h : cmdE d n i = 0) : ∃ k : Nat, i = (k : Int) ∧ k < n ∧ d.down = false := by
  rw [← doc_cmd] at h
  obtain ⟨h1, h2⟩ := b7E_in h
  refine ⟨i.toNat, by omega, by omega, ?_⟩
  cases hd : d.down with
  | false => rfl
  | true => unfold b7E dd7 at h; rw [hd] at h; simp at h
theorem doc_R {n : Nat} {i : Int} (h : cmdE d n i = 0) : b7R (dd7 d) n i = dd7 (up1 d) := by unfold b7R; rw [if_pos (by rw [doc_cmd]; exact h)]; rfl
theorem doc_N {n : Nat} {i : Int} (h : cmdE d n i ≠ 0) : b7R (dd7 d) n i = dd7 d := by unfold b7R; rw [if_neg (by rw [doc_cmd]; exact h)]
theorem sane_at (hs : Sane d zs) {k : Nat} {z : ZsR} (hz : zs[k]? = some z) : ZsOk z ∧ z.size = d.size := hs.ok z (List.mem_of_getElem? hz)
theorem doc_z7 (hs : Sane d zs) {l : List (R7z × Value)} (h : l.map Prod.fst = zs.map rz) : ∀ p ∈ l, Z7Ok p.1 := fun p hp => by
  have h1 : p.1 ∈ zs.map rz := by rw [← h]; exact List.mem_map_of_mem hp
  obtain ⟨z, hz, he⟩ := List.mem_map.1 h1
  rw [← he]
  obtain ⟨h2, _⟩ := hs.ok z hz
  have h3 := h2.len
  have h4 := h2.size.2
  exact ⟨by show z.ss.length ≤ 1000; omega, h2.w64, h2.safe⟩
theorem set_same {k : Nat} {z : ZsR} (hz : zs[k]? = some z) : zs.set k z = zs := by
  obtain ⟨hk, rfl⟩ := List.getElem?_eq_some_iff.1 hz
  exact List.set_getElem_self hk
theorem zsat_of {k : Nat} {z : ZsR} (hz : zs[k]? = some z) : zsat zs (k : Int) = z := by
  unfold zsat; rw [Int.toNat_natCast, List.getD_eq_getElem?_getD, hz]; rfl
def DocTo (lo : Nat) (w : World) (R : OutR) (ret : Array Value → Value) (e : Ending) (w' : World) : Prop :=
  ∃ v', e = .returned (ret (d7A (dd7 R.d) v')) ∧ Doc lo w' v' R.zs ∧ Below w.heap.size w w'
theorem gap7 (i : Int) (s : List Nat) (hs : s.length = 64) (hd : Doc lo w v zs) (sn : Sane d zs) (hn : 0 ≤ d.count ∧ d.count ≤ 1000000) (hlo : lo ≤ w.heap.size) :
    Calls Try.prog 28 #[.agg (d7A (dd7 d) v), .int .i64 i, .agg (bA s)] w (DocTo lo w (apSp d zs i s) (fun x => .tuple #[.agg x, .int .i64 (apSp d zs i s).o, .int .i64 (apSp d zs i s).e])) := by
  obtain ⟨l, hr, hm⟩ := hd
  have hl := doc7_len hm
  have hl2 : l.length ≤ 1000 := by rw [hl]; exact sn.len
  by_cases h1 : cmdE d zs.length i = 0
  · obtain ⟨k, rfl, hk, hdn⟩ := cmd_in h1
    obtain ⟨z, hz⟩ : ∃ z, zs[k]? = some z := ⟨_, List.getElem?_eq_getElem hk⟩
    obtain ⟨u, hp⟩ := doc_at hm hz
    obtain ⟨hok, hsz⟩ := sane_at sn hz
    have hz1 : (rz z).ss.length ≤ 1000 := by have := hok.len; have := hok.size.2; show z.ss.length ≤ 1000; omega
    have hb : b7E (dd7 d) l.length (k : Int) = 0 := by rw [doc_cmd, hl]; exact h1
    have hop := doc_op hm
    by_cases h2 : stS z = 0 ∧ ¬ (opD zs : Int) < d.opn
    · have hR : apSp d zs (k : Int) s = ⟨0, 33, up1 d, zs⟩ := by unfold apSp; rw [if_neg (fun h => h h1), zsat_of hz, if_pos h2]
      rw [hR]
      refine (ap7_full (dd7 d) s hs hn hl2 hz1 hr hlo hp hb h2.1 (by show d.opn ≤ _; rw [hop]; omega)).mono ?_
      rintro e w' ⟨v', u', rfl, hr', hb'⟩
      exact ⟨v', rfl, ⟨l, hr', hm⟩, hb'⟩
    · have hR : apSp d zs (k : Int) s = ⟨apOS z, apES z, up1 d, zs.set k (apSS z s)⟩ := by unfold apSp; rw [if_neg (fun h => h h1), zsat_of hz, if_neg h2, Int.toNat_natCast]
      rw [hR]
      have hf := rz_ref hok
      by_cases h3 : refS z = 0
      · by_cases h4 : stS z = 2
        · have hE : apES z = 17 := by unfold apES; rw [if_neg (fun h => h h3), if_pos h4]
          have hO : apOS z = 0 := by unfold apOS; rw [hE]; rfl
          rw [hE, hO, ap_no (by rw [hE]; decide), set_same hz]
          refine (ap7_two (dd7 d) s hs hn hl2 hz1 hr hlo hp hb h4).mono ?_
          rintro e w' ⟨v', u', rfl, hr', hb'⟩
          exact ⟨v', rfl, ⟨l, hr', hm⟩, hb'⟩
        · have hE : apES z = 0 := by unfold apES; rw [if_neg (fun h => h h3), if_neg h4]
          have hO : apOS z = (z.ss.length : Int) := by unfold apOS; rw [if_pos hE]
          have hZ : ap7Z (dd7 d).size (rz z) s = rz (apSS z s) := by rw [rz_ap hok hE s, hsz]; rfl
          rw [hE, hO]
          by_cases h5 : stS z = 0
          · refine (ap7_ok0 (dd7 d) s hs hn hl2 hz1 hr hlo hp hb hZ hok.w64 (hf.trans h3) h4 h5 (by show ¬ d.opn ≤ _; rw [hop]; omega)).mono ?_
            rintro e w' ⟨v', u', rfl, hr', hb'⟩
            exact ⟨v', rfl, ⟨_, hr', doc_set hm k _ u' rfl⟩, hb'⟩
          · refine (ap7_ok1 (dd7 d) s hs hn hl2 hz1 hr hlo hp hb hZ hok.w64 (hf.trans h3) h4 h5).mono ?_
            rintro e w' ⟨v', u', rfl, hr', hb'⟩
            exact ⟨v', rfl, ⟨_, hr', doc_set hm k _ u' rfl⟩, hb'⟩
      · have hE : apES z = refS z := by unfold apES; rw [if_pos h3]
        have hO : apOS z = 0 := by unfold apOS; rw [if_neg (by rw [hE]; exact h3)]
        have h5 : stS z ≠ 0 := fun e => by
          rcases stS_cases hok with ⟨q1, q2, q3⟩ | ⟨q1, q2⟩ | ⟨q1, q2⟩
          · exact h3 ((refS_zero hok).2 q1)
          · omega
          · omega
        rw [hO, ap_no (by rw [hE]; exact h3), set_same hz, hE, ← hf]
        refine (ap7_ref (dd7 d) s hs hn hl2 hz1 hr hlo hp hb h5 (by rw [hf]; exact h3)).mono ?_
        rintro e w' ⟨v', u', rfl, hr', hb'⟩
        exact ⟨v', rfl, ⟨l, hr', hm⟩, hb'⟩
  · have hR : apSp d zs i s = ⟨0, cmdE d zs.length i, d, zs⟩ := by unfold apSp; rw [if_pos h1]
    rw [hR]
    refine (ap7_no (dd7 d) i s hn hl2 hr (by rw [doc_cmd, hl]; exact h1)).mono ?_
    rintro e w' ⟨v', u', rfl, hr', hb'⟩
    exact ⟨v', by rw [doc_cmd, hl], ⟨l, hr', hm⟩, hb'⟩
theorem grs7 (i : Int) (hd : Doc lo w v zs) (sn : Sane d zs) (hn : 0 ≤ d.count ∧ d.count ≤ 1000000) (hlo : lo ≤ w.heap.size) :
    Calls Try.prog 31 #[.agg (d7A (dd7 d) v), .int .i64 i] w (DocTo lo w (rsSp d zs i) (fun x => .tuple #[.agg x, .int .i64 (rsSp d zs i).e])) := by
  obtain ⟨l, hr, hm⟩ := hd
  have hl := doc7_len hm
  refine (rs7 (dd7 d) i hn (by rw [hl]; exact sn.len) hr hlo).mono ?_
  rintro e w' ⟨v', rfl, hr', hb⟩
  by_cases h1 : cmdE d zs.length i = 0
  · obtain ⟨k, rfl, hk, hdn⟩ := cmd_in h1
    obtain ⟨z, hz⟩ : ∃ z, zs[k]? = some z := ⟨_, List.getElem?_eq_getElem hk⟩
    obtain ⟨u, hp⟩ := doc_at hm hz
    obtain ⟨hok, hsz⟩ := sane_at sn hz
    have hzz : zat l (k : Int) = rz z := by unfold zat; rw [Int.toNat_natCast, List.getD_eq_getElem?_getD, hp]; rfl
    have hE : rs7E (dd7 d) l (k : Int) = refS z := by unfold rs7E; rw [if_pos (by rw [doc_cmd, hl]; exact h1), hzz]; exact rz_ref hok
    have hR : rsSp d zs (k : Int) = ⟨0, refS z, up1 d, zs.set k (rsS z)⟩ := by unfold rsSp; rw [if_neg (fun h => h h1), zsat_of hz, Int.toNat_natCast]
    rw [hR, hE, hl, doc_R h1]
    unfold rs7L at hr'
    by_cases h3 : refS z = 0
    · rw [if_pos (hE.trans h3), Int.toNat_natCast] at hr'
      exact ⟨v', rfl, ⟨_, hr', doc_set hm k _ _ (rz_rs hok h3)⟩, hb⟩
    · rw [if_neg (by rw [hE]; exact h3)] at hr'
      exact ⟨v', rfl, ⟨l, hr', by rw [rs_no h3, set_same hz]; exact hm⟩, hb⟩
  · have hR : rsSp d zs i = ⟨0, cmdE d zs.length i, d, zs⟩ := by unfold rsSp; rw [if_pos h1]
    have hE : rs7E (dd7 d) l i = cmdE d zs.length i := by unfold rs7E; rw [if_neg (by rw [doc_cmd, hl]; exact h1), doc_cmd, hl]
    rw [hR, hE, hl, doc_N h1]
    unfold rs7L at hr'
    rw [if_neg (by rw [hE]; exact h1)] at hr'
    exact ⟨v', rfl, ⟨l, hr', hm⟩, hb⟩
theorem gfn7 (i : Int) (hd : Doc lo w v zs) (sn : Sane d zs) (hn : 0 ≤ d.count ∧ d.count ≤ 1000000) (hlo : lo ≤ w.heap.size) :
    Calls Try.prog 33 #[.agg (d7A (dd7 d) v), .int .i64 i] w (DocTo lo w (fnSp d zs i) (fun x => .tuple #[.agg x, .int .i64 (fnSp d zs i).e])) := by
  obtain ⟨l, hr, hm⟩ := hd
  have hl := doc7_len hm
  refine (fn7 (dd7 d) i hn (by rw [hl]; exact sn.len) hr hlo).mono ?_
  rintro e w' ⟨v', rfl, hr', hb⟩
  by_cases h1 : cmdE d zs.length i = 0
  · obtain ⟨k, rfl, hk, hdn⟩ := cmd_in h1
    obtain ⟨z, hz⟩ : ∃ z, zs[k]? = some z := ⟨_, List.getElem?_eq_getElem hk⟩
    obtain ⟨u, hp⟩ := doc_at hm hz
    obtain ⟨hok, hsz⟩ := sane_at sn hz
    have hzz : zat l (k : Int) = rz z := by unfold zat; rw [Int.toNat_natCast, List.getD_eq_getElem?_getD, hp]; rfl
    have hE : rs7E (dd7 d) l (k : Int) = refS z := by unfold rs7E; rw [if_pos (by rw [doc_cmd, hl]; exact h1), hzz]; exact rz_ref hok
    have hR : fnSp d zs (k : Int) = ⟨0, refS z, up1 d, zs.set k (fnS z)⟩ := by unfold fnSp; rw [if_neg (fun h => h h1), zsat_of hz, Int.toNat_natCast]
    rw [hR, hE, hl, doc_R h1]
    unfold fn7L at hr'
    by_cases h3 : refS z = 0
    · rw [if_pos (hE.trans h3), Int.toNat_natCast, onz_at hp] at hr'
      exact ⟨v', rfl, ⟨_, hr', doc_set hm k _ _ (rz_fn hok h3)⟩, hb⟩
    · rw [if_neg (by rw [hE]; exact h3)] at hr'
      exact ⟨v', rfl, ⟨l, hr', by rw [fn_no h3, set_same hz]; exact hm⟩, hb⟩
  · have hR : fnSp d zs i = ⟨0, cmdE d zs.length i, d, zs⟩ := by unfold fnSp; rw [if_pos h1]
    have hE : rs7E (dd7 d) l i = cmdE d zs.length i := by unfold rs7E; rw [if_neg (by rw [doc_cmd, hl]; exact h1), doc_cmd, hl]
    rw [hR, hE, hl, doc_N h1]
    unfold fn7L at hr'
    rw [if_neg (by rw [hE]; exact h1)] at hr'
    exact ⟨v', rfl, ⟨l, hr', hm⟩, hb⟩
theorem mapIdx_const (f : ZsR → ZsR) (zs : List ZsR) : zs.mapIdx (fun _ => f) = zs.map f := by
  apply List.ext_getElem?
  intro i
  rw [List.getElem?_mapIdx, List.getElem?_map]
theorem gfl7 (hd : Doc lo w v zs) (sn : Sane d zs) (hn : 0 ≤ d.count ∧ d.count ≤ 1000000) (hlo : lo ≤ w.heap.size) :
    Calls Try.prog 35 #[.agg (d7A (dd7 d) v)] w (DocTo lo w (flSp d zs) (fun x => .tuple #[.agg x, .int .i64 (flSp d zs).e])) := by
  obtain ⟨l, hr, hm⟩ := hd
  have hl := doc7_len hm
  refine (fl7 (dd7 d) hn (by rw [hl]; exact sn.len) (fun p hp => (doc_z7 sn hm p hp).len) hr hlo).mono ?_
  rintro e w' ⟨v', rfl, hr', hb⟩
  unfold fl7E fl7R
  unfold fl7L at hr'
  by_cases h1 : d.down = true
  · have hR : flSp d zs = ⟨0, 34, d, zs⟩ := by unfold flSp; rw [if_pos h1]
    rw [if_pos (show (dd7 d).down = true from h1)] at hr'
    rw [hR, if_pos (show (dd7 d).down = true from h1), if_pos (show (dd7 d).down = true from h1)]
    exact ⟨v', rfl, ⟨l, hr', hm⟩, hb⟩
  · have hR : flSp d zs = ⟨0, 0, up1 d, zs.mapIdx (fun _ => flS)⟩ := by unfold flSp; rw [if_neg h1]
    rw [if_neg (show ¬ (dd7 d).down = true from h1)] at hr'
    rw [hR, if_neg (show ¬ (dd7 d).down = true from h1), if_neg (show ¬ (dd7 d).down = true from h1)]
    refine ⟨v', rfl, ⟨_, hr', ?_⟩, hb⟩
    show (l.map fl7Z).map Prod.fst = (zs.mapIdx (fun _ => flS)).map rz
    rw [mapIdx_const, List.map_map, List.map_map]
    have h2 : l.map (Prod.fst ∘ fl7Z) = (l.map Prod.fst).map (fun z => { z with safe := (z.ss.length : Int) }) := by rw [List.map_map]; rfl
    rw [h2, hm, List.map_map]
    rfl
theorem grv7 {ka : Option Addr} {kl kc : Nat} {ks : List Int} (hd : Doc lo w v zs) (sn : Sane d zs) (hk : RowZ w ka kl kc ks) (hlo : lo ≤ w.heap.size) :
    Calls Try.prog 38 #[.agg (d7A (dd7 d) v), .slice ka kl kc] w (DocTo lo w (rvSp d zs ks) (fun x => .agg x)) := by
  obtain ⟨l, hr, hm⟩ := hd
  have hl := doc7_len hm
  by_cases h1 : d.down = true
  · have hR : rvSp d zs ks = ⟨0, 0, { d with down := false }, zs.mapIdx (fun i z => crS z (ks.getD i 0))⟩ := by unfold rvSp; rw [if_pos h1]
    rw [hR]
    refine (rv7_down (dd7 d) (by rw [hl]; exact sn.len) (doc_z7 sn hm) hr hk hlo h1).mono ?_
    rintro e w' ⟨v', l', rfl, hr', hI, hb⟩
    refine ⟨v', rfl, ⟨l', hr', ?_⟩, hb⟩
    rw [hI.map, hm]
    apply List.ext_getElem?
    intro i
    rw [List.getElem?_mapIdx, List.getElem?_map, List.getElem?_map, List.getElem?_mapIdx]
    cases hz : zs[i]? with
    | none => rfl
    | some z =>
      obtain ⟨hok, hsz⟩ := sane_at sn hz
      show some (rv7F ks (dd7 d).size i (rz z)) = some (rz (crS z (ks.getD i 0)))
      unfold rv7F
      rw [rz_cr hok, hsz]
      rfl
  · have hR : rvSp d zs ks = ⟨0, 0, d, zs⟩ := by unfold rvSp; rw [if_neg h1]
    rw [hR]
    refine (rv7_up (kv := .slice ka kl kc) (dd7 d) hr (by show d.down = false; simpa using h1)).mono ?_
    rintro e w' ⟨rfl, hr', hb⟩
    exact ⟨v, rfl, ⟨l, hr', hm⟩, hb⟩
theorem gfa7 (i st : Int) (hd : Doc lo w v zs) (sn : Sane d zs) (hlo : lo ≤ w.heap.size) :
    Calls Try.prog 77 #[.agg (d7A (dd7 d) v), .int .i64 i, .int .i64 st] w (DocTo lo w (faSp d zs i st) (fun x => .tuple #[.agg x, .int .i64 (faSp d zs i st).e])) := by
  obtain ⟨l, hr, hm⟩ := hd
  have hl := doc7_len hm
  refine (fa7 (dd7 d) i st (by rw [hl]; exact sn.len) hr hlo).mono ?_
  rintro e w' ⟨v', rfl, hr', hb⟩
  have hx : fa7E l.length i = if dhB zs.length i = true then 0 else 13 := by
    unfold fa7E dhB
    rw [hl]
    by_cases h2 : i < 0 ∨ (zs.length : Int) ≤ i
    · rw [if_pos h2, if_neg (by simp; omega)]
    · rw [if_neg h2, if_pos (by simp; omega)]
  unfold fa7L at hr'
  rw [hx] at hr' ⊢
  by_cases h1 : dhB zs.length i = true
  · obtain ⟨i0, i1⟩ := dhB_in h1
    obtain ⟨k, rfl⟩ := Int.eq_ofNat_of_zero_le i0
    obtain ⟨z, hz⟩ : ∃ z, zs[k]? = some z := ⟨_, List.getElem?_eq_getElem (by omega)⟩
    obtain ⟨u, hp⟩ := doc_at hm hz
    obtain ⟨hok, hsz⟩ := sane_at sn hz
    have hR : faSp d zs (k : Int) st = ⟨0, 0, d, zs.set k (faS z st)⟩ := by unfold faSp; rw [if_pos h1, zsat_of hz, Int.toNat_natCast]
    rw [if_pos h1, if_pos rfl, Int.toNat_natCast, onz_at hp] at hr'
    rw [hR, if_pos h1]
    exact ⟨v', rfl, ⟨_, hr', doc_set hm k _ _ (rz_fa hok st)⟩, hb⟩
  · have hR : faSp d zs i st = ⟨0, 13, d, zs⟩ := by unfold faSp; rw [if_neg h1]
    rw [if_neg h1, if_neg (by decide)] at hr'
    rw [hR, if_neg h1]
    exact ⟨v', rfl, ⟨l, hr', hm⟩, hb⟩
theorem gsp7 (i off : Int) (p : List Nat) (hp64 : p.length = 64) (hpb : ∀ c ∈ p, c < 256) (hd : Doc lo w v zs) (sn : Sane d zs) (hlo : lo ≤ w.heap.size) :
    Calls Try.prog 76 #[.agg (d7A (dd7 d) v), .int .i64 i, .int .i64 off, .agg (bA p)] w (DocTo lo w (spSp d zs i off p) (fun x => .tuple #[.agg x, .int .i64 (spSp d zs i off p).e])) := by
  obtain ⟨l, hr, hm⟩ := hd
  have hl := doc7_len hm
  have hl2 : l.length ≤ 1000 := by rw [hl]; exact sn.len
  by_cases h1 : dhB zs.length i = true
  · obtain ⟨i0, i1⟩ := dhB_in h1
    obtain ⟨k, rfl⟩ := Int.eq_ofNat_of_zero_le i0
    obtain ⟨z, hz⟩ : ∃ z, zs[k]? = some z := ⟨_, List.getElem?_eq_getElem (by omega)⟩
    obtain ⟨u, hp⟩ := doc_at hm hz
    obtain ⟨hok, hsz⟩ := sane_at sn hz
    have hz1 : (rz z).ss.length ≤ 1000 := by have := hok.len; have := hok.size.2; show z.ss.length ≤ 1000; omega
    have hR : spSp d zs (k : Int) off p = ⟨0, chE7 z off, d, zs.set k (chS7 z off p)⟩ := by unfold spSp; rw [if_pos h1, zsat_of hz, Int.toNat_natCast]
    rw [hR]
    by_cases h2 : holS z off = true
    · obtain ⟨o1, o2⟩ : 0 ≤ off ∧ off < (z.ss.length : Int) := by unfold holS at h2; simpa using h2
      obtain ⟨j, rfl⟩ := Int.eq_ofNat_of_zero_le o1
      have hj : j < z.ss.length := by omega
      have hxm : z.ss.getD j [] ∈ z.ss := by rw [List.getD_eq_getElem?_getD, List.getElem?_eq_getElem hj]; exact List.getElem_mem hj
      have hE : chE7 z (j : Int) = 0 := by unfold chE7; rw [if_pos h2]
      rw [hE]
      refine (sp7_ok (R := z.ss.getD j []) (dd7 d) p hl2 hz1 hr hlo hp hj hok.w64 rfl (getD_64 hok.w64 j hj) (hok.lt _ hxm) hp64 hpb).mono ?_
      rintro e w' ⟨v', u', rfl, hr', hb⟩
      exact ⟨v', rfl, ⟨_, hr', doc_set hm k _ u' (rz_ch j h2 p)⟩, hb⟩
    · have h2' : holS z off = false := by simpa using h2
      have hE : chE7 z off = 31 := by unfold chE7; rw [if_neg h2]
      rw [hE, ch_no off h2' p, set_same hz]
      have h3 : ¬ (0 ≤ off ∧ off < (z.ss.length : Int)) := fun h => by unfold holS at h2; simp at h2; omega
      by_cases h4 : off < 0
      · refine (sp7_offneg (dd7 d) off p hl2 hz1 hr hlo hp h4).mono ?_
        rintro e w' ⟨v', u', rfl, hr', hb⟩
        exact ⟨v', rfl, ⟨l, hr', hm⟩, hb⟩
      · refine (sp7_offbig (dd7 d) off p hl2 hz1 hr hlo hp (by omega) (by show (z.ss.length : Int) ≤ off; omega)).mono ?_
        rintro e w' ⟨v', u', rfl, hr', hb⟩
        exact ⟨v', rfl, ⟨l, hr', hm⟩, hb⟩
  · have hR : spSp d zs i off p = ⟨0, 13, d, zs⟩ := by unfold spSp; rw [if_neg h1]
    rw [hR]
    have h3 : ¬ (0 ≤ i ∧ i < (zs.length : Int)) := fun h => by unfold dhB at h1; simp at h1; omega
    by_cases h4 : i < 0
    · refine (sp7_neg (dd7 d) i off p hl2 hr h4).mono ?_
      rintro e w' ⟨v', u', rfl, hr', hb⟩
      exact ⟨v', rfl, ⟨l, hr', hm⟩, hb⟩
    · refine (sp7_big (dd7 d) i off p hl2 hr (by omega) (by rw [hl]; omega)).mono ?_
      rintro e w' ⟨v', u', rfl, hr', hb⟩
      exact ⟨v', rfl, ⟨l, hr', hm⟩, hb⟩
end
end Go.Proofs.Ytajkajgnjcnolaa

namespace Go.Proofs.Ytajkajgnjcnolaa
open Go.RowKit
set_option linter.unusedVariables false
set_option linter.unnecessarySimpa false
set_option linter.unusedSimpArgs false
theorem DvAt.sane {lo D : Nat} {w : World} {vz : Value} {d : DvR} {l : List ZcR} (h : DvAt lo w D vz d l) (hl : l.length ≤ 1000) : Sane d (l.map ZcR.z) := ⟨fun z hz => by
  obtain ⟨c, hc, rfl⟩ := List.mem_map.1 hz
  obtain ⟨i, hi⟩ := List.getElem?_of_mem hc
  exact ⟨h.ok i c hi, h.size i c hi⟩, by rw [List.length_map]; exact hl⟩
theorem cmd_cases {d : DvR} {n : Nat} {i : Int} (h : cmdE d n i ≠ 0) : (d.down = true ∧ cmdE d n i = 34) ∨ (d.down = false ∧ dhB n i = false ∧ cmdE d n i = 13) := by
  unfold cmdE at *
  cases hd : d.down with
  | true => exact .inl ⟨rfl, if_pos rfl⟩
  | false =>
    rw [hd, if_neg (by decide)] at h
    rw [if_neg (by decide)]
    cases hh : dhB n i with
    | true => rw [hh, if_pos rfl] at h; exact absurd rfl h
    | false => exact .inr ⟨rfl, rfl, if_neg (by decide)⟩
section
variable {lo D : Nat} {w : World} {vz : Value} {d : DvR} {l : List ZcR}
theorem zof {k : Nat} {c : ZcR} (hc : l[k]? = some c) : (l.map ZcR.z)[k]? = some c.z := by rw [List.getElem?_map, hc]; rfl
theorem cof {k : Nat} (h : k < (l.map ZcR.z).length) : ∃ c, l[k]? = some c := ⟨_, List.getElem?_eq_getElem (by simpa using h)⟩
theorem cap7 (i : Int) (s : List Nat) (hs : s.length = 64) (hs2 : ∀ b ∈ s, b < 256) (h : DvAt lo w D vz d l) (hn : 0 ≤ d.count ∧ d.count ≤ 1000000) (hl : l.length ≤ 1000) :
    Calls Try.prog 55 #[.pointer (some ⟨D, 0, none⟩), .int .i64 i, .agg (bA s)] w fun e w' => e = .returned (.tuple #[.int .i64 (apSp d (l.map ZcR.z) i s).o, .int .i64 (apSp d (l.map ZcR.z) i s).e]) ∧ DvTo lo w D vz l (apSp d (l.map ZcR.z) i s).d (apSp d (l.map ZcR.z) i s).zs w' := by
  by_cases h1 : cmdE d (l.map ZcR.z).length i = 0
  · obtain ⟨k, rfl, hk, hd⟩ := cmd_in h1
    obtain ⟨c, hc⟩ := cof hk
    by_cases h2 : stS c.z = 0 ∧ ¬ (opD (l.map ZcR.z) : Int) < d.opn
    · have hR : apSp d (l.map ZcR.z) (k : Int) s = ⟨0, 33, up1 d, l.map ZcR.z⟩ := by unfold apSp; rw [if_neg (fun h => h h1), zsat_of (zof hc), if_pos h2]
      rw [hR]
      exact dap_full s h hd hc hn hl h2.1 h2.2
    · have hR : apSp d (l.map ZcR.z) (k : Int) s = ⟨apOS c.z, apES c.z, up1 d, (l.map ZcR.z).set k (apSS c.z s)⟩ := by unfold apSp; rw [if_neg (fun h => h h1), zsat_of (zof hc), if_neg h2, Int.toNat_natCast]
      rw [hR]
      by_cases h3 : stS c.z = 0
      · exact dap_ok0 s h hd hc hn hl hs hs2 h3 (by omega)
      · exact dap_ok1 s h hd hc hn hl hs hs2 h3
  · have hR : apSp d (l.map ZcR.z) i s = ⟨0, cmdE d (l.map ZcR.z).length i, d, l.map ZcR.z⟩ := by unfold apSp; rw [if_pos h1]
    rw [hR]
    rcases cmd_cases h1 with ⟨q1, q2⟩ | ⟨q1, q2, q3⟩
    · refine (dap_down i s h q1).mono ?_
      rintro e w' ⟨rfl, hb⟩
      exact ⟨by rw [q2], DvTo.same h hb⟩
    · refine (dap_no i s h q1 (by rw [List.length_map] at q2; exact q2)).mono ?_
      rintro e w' ⟨rfl, hb⟩
      exact ⟨by rw [q3], DvTo.same h hb⟩
theorem crd7 (i off : Int) (h : DvAt lo w D vz d l) (hn : 0 ≤ d.count ∧ d.count ≤ 1000000) :
    Calls Try.prog 61 #[.pointer (some ⟨D, 0, none⟩), .int .i64 i, .int .i64 off] w fun e w' => e = .returned (.tuple #[.agg (bA (rdV7 d (l.map ZcR.z) i off)), .int .i64 (rdSp d (l.map ZcR.z) i off).e]) ∧ DvTo lo w D vz l (rdSp d (l.map ZcR.z) i off).d (rdSp d (l.map ZcR.z) i off).zs w' := by
  by_cases h1 : cmdE d (l.map ZcR.z).length i = 0
  · obtain ⟨k, rfl, hk, hd⟩ := cmd_in h1
    obtain ⟨c, hc⟩ := cof hk
    have hR : rdSp d (l.map ZcR.z) (k : Int) off = ⟨0, rdES c.z off, up1 d, l.map ZcR.z⟩ := by unfold rdSp; rw [if_neg (fun h => h h1), zsat_of (zof hc)]
    have hV : rdV7 d (l.map ZcR.z) (k : Int) off = rdVS c.z off := by unfold rdV7; rw [if_neg (fun h => h h1), zsat_of (zof hc)]
    rw [hR, hV]
    exact drd_ok off rfl rfl h hd hc hn
  · have hR : rdSp d (l.map ZcR.z) i off = ⟨0, cmdE d (l.map ZcR.z).length i, d, l.map ZcR.z⟩ := by unfold rdSp; rw [if_pos h1]
    have hV : rdV7 d (l.map ZcR.z) i off = zeros 64 := by unfold rdV7; rw [if_pos h1]
    rw [hR, hV]
    rcases cmd_cases h1 with ⟨q1, q2⟩ | ⟨q1, q2, q3⟩
    · refine (drd_down i off h q1).mono ?_
      rintro e w' ⟨rfl, hb⟩
      exact ⟨by rw [q2], DvTo.same h hb⟩
    · refine (drd_no i off h q1 (by rw [List.length_map] at q2; exact q2)).mono ?_
      rintro e w' ⟨rfl, hb⟩
      exact ⟨by rw [q3], DvTo.same h hb⟩
theorem crs7 (i : Int) (h : DvAt lo w D vz d l) (hn : 0 ≤ d.count ∧ d.count ≤ 1000000) :
    Calls Try.prog 62 #[.pointer (some ⟨D, 0, none⟩), .int .i64 i] w fun e w' => e = .returned (.int .i64 (rsSp d (l.map ZcR.z) i).e) ∧ DvTo lo w D vz l (rsSp d (l.map ZcR.z) i).d (rsSp d (l.map ZcR.z) i).zs w' := by
  by_cases h1 : cmdE d (l.map ZcR.z).length i = 0
  · obtain ⟨k, rfl, hk, hd⟩ := cmd_in h1
    obtain ⟨c, hc⟩ := cof hk
    have hR : rsSp d (l.map ZcR.z) (k : Int) = ⟨0, refS c.z, up1 d, (l.map ZcR.z).set k (rsS c.z)⟩ := by unfold rsSp; rw [if_neg (fun h => h h1), zsat_of (zof hc), Int.toNat_natCast]
    rw [hR]
    exact drs_ok h hd hc hn
  · have hR : rsSp d (l.map ZcR.z) i = ⟨0, cmdE d (l.map ZcR.z).length i, d, l.map ZcR.z⟩ := by unfold rsSp; rw [if_pos h1]
    rw [hR]
    rcases cmd_cases h1 with ⟨q1, q2⟩ | ⟨q1, q2, q3⟩
    · refine (drs_down i h q1).mono ?_
      rintro e w' ⟨rfl, rfl⟩
      exact ⟨by rw [q2], DvTo.same h (Below.refl _ _)⟩
    · refine (drs_no i h q1 (by rw [List.length_map] at q2; exact q2)).mono ?_
      rintro e w' ⟨rfl, rfl⟩
      exact ⟨by rw [q3], DvTo.same h (Below.refl _ _)⟩
theorem cfn7 (i : Int) (h : DvAt lo w D vz d l) (hn : 0 ≤ d.count ∧ d.count ≤ 1000000) :
    Calls Try.prog 63 #[.pointer (some ⟨D, 0, none⟩), .int .i64 i] w fun e w' => e = .returned (.int .i64 (fnSp d (l.map ZcR.z) i).e) ∧ DvTo lo w D vz l (fnSp d (l.map ZcR.z) i).d (fnSp d (l.map ZcR.z) i).zs w' := by
  by_cases h1 : cmdE d (l.map ZcR.z).length i = 0
  · obtain ⟨k, rfl, hk, hd⟩ := cmd_in h1
    obtain ⟨c, hc⟩ := cof hk
    have hR : fnSp d (l.map ZcR.z) (k : Int) = ⟨0, refS c.z, up1 d, (l.map ZcR.z).set k (fnS c.z)⟩ := by unfold fnSp; rw [if_neg (fun h => h h1), zsat_of (zof hc), Int.toNat_natCast]
    rw [hR]
    exact dfn_ok h hd hc hn
  · have hR : fnSp d (l.map ZcR.z) i = ⟨0, cmdE d (l.map ZcR.z).length i, d, l.map ZcR.z⟩ := by unfold fnSp; rw [if_pos h1]
    rw [hR]
    rcases cmd_cases h1 with ⟨q1, q2⟩ | ⟨q1, q2, q3⟩
    · refine (dfn_down i h q1).mono ?_
      rintro e w' ⟨rfl, rfl⟩
      exact ⟨by rw [q2], DvTo.same h (Below.refl _ _)⟩
    · refine (dfn_no i h q1 (by rw [List.length_map] at q2; exact q2)).mono ?_
      rintro e w' ⟨rfl, rfl⟩
      exact ⟨by rw [q3], DvTo.same h (Below.refl _ _)⟩
theorem cfl7 (h : DvAt lo w D vz d l) (hn : 0 ≤ d.count ∧ d.count ≤ 1000000) (hl : l.length ≤ 1000) :
    Calls Try.prog 65 #[.pointer (some ⟨D, 0, none⟩)] w fun e w' => e = .returned (.int .i64 (flSp d (l.map ZcR.z)).e) ∧ DvTo lo w D vz l (flSp d (l.map ZcR.z)).d (flSp d (l.map ZcR.z)).zs w' := by
  unfold flSp
  by_cases h1 : d.down = true
  · rw [if_pos h1]
    refine (dfl_down h h1).mono ?_
    rintro e w' ⟨rfl, rfl⟩
    exact ⟨rfl, DvTo.same h (Below.refl _ _)⟩
  · rw [if_neg h1]
    exact dfl_up h (by simpa using h1) hn hl
theorem crv7 {ka : Option Addr} {kl kc : Nat} {ks : List Int} (h : DvAt lo w D vz d l) (hk : ∃ w0, RowZ w0 ka kl kc ks ∧ Below w0.heap.size w0 w ∧ w0.heap.size ≤ lo) (hl : l.length ≤ 1000) :
    Calls Try.prog 66 #[.pointer (some ⟨D, 0, none⟩), .slice ka kl kc] w fun e w' => e = .returned (.tuple #[]) ∧ DvTo lo w D vz l (rvSp d (l.map ZcR.z) ks).d (rvSp d (l.map ZcR.z) ks).zs w' := by
  unfold rvSp
  by_cases h1 : d.down = true
  · rw [if_pos h1]
    exact drv_down h h1 hk hl
  · rw [if_neg h1]
    refine (drv_up _ h (by simpa using h1)).mono ?_
    rintro e w' ⟨rfl, rfl⟩
    exact ⟨rfl, DvTo.same h (Below.refl _ _)⟩
theorem cfa7 (i st : Int) (h : DvAt lo w D vz d l) :
    Calls Try.prog 88 #[.pointer (some ⟨D, 0, none⟩), .int .i64 i, .int .i64 st] w fun e w' => e = .returned (.int .i64 (faSp d (l.map ZcR.z) i st).e) ∧ DvTo lo w D vz l (faSp d (l.map ZcR.z) i st).d (faSp d (l.map ZcR.z) i st).zs w' := by
  by_cases h1 : dhB (l.map ZcR.z).length i = true
  · obtain ⟨i0, i1⟩ := dhB_in h1
    obtain ⟨k, rfl⟩ := Int.eq_ofNat_of_zero_le i0
    obtain ⟨c, hc⟩ := cof (l := l) (k := k) (by omega)
    have hR : faSp d (l.map ZcR.z) (k : Int) st = ⟨0, 0, d, (l.map ZcR.z).set k (faS c.z st)⟩ := by unfold faSp; rw [if_pos h1, zsat_of (zof hc), Int.toNat_natCast]
    rw [hR]
    exact dfa_ok st h hc
  · have hR : faSp d (l.map ZcR.z) i st = ⟨0, 13, d, l.map ZcR.z⟩ := by unfold faSp; rw [if_neg h1]
    rw [hR]
    refine (dfa_no i st h (by rw [List.length_map] at h1; simpa using h1)).mono ?_
    rintro e w' ⟨rfl, rfl⟩
    exact ⟨rfl, DvTo.same h (Below.refl _ _)⟩
theorem csp7 (i off : Int) (p : List Nat) (hp : p.length = 64) (hpb : ∀ b ∈ p, b < 256) (h : DvAt lo w D vz d l) :
    Calls Try.prog 91 #[.pointer (some ⟨D, 0, none⟩), .int .i64 i, .int .i64 off, .agg (bA p)] w fun e w' => e = .returned (.int .i64 (spSp d (l.map ZcR.z) i off p).e) ∧ DvTo lo w D vz l (spSp d (l.map ZcR.z) i off p).d (spSp d (l.map ZcR.z) i off p).zs w' := by
  by_cases h1 : dhB (l.map ZcR.z).length i = true
  · obtain ⟨i0, i1⟩ := dhB_in h1
    obtain ⟨k, rfl⟩ := Int.eq_ofNat_of_zero_le i0
    obtain ⟨c, hc⟩ := cof (l := l) (k := k) (by omega)
    have hR : spSp d (l.map ZcR.z) (k : Int) off p = ⟨0, chE7 c.z off, d, (l.map ZcR.z).set k (chS7 c.z off p)⟩ := by unfold spSp; rw [if_pos h1, zsat_of (zof hc), Int.toNat_natCast]
    rw [hR]
    exact dsp_ok off h hc hp hpb
  · have hR : spSp d (l.map ZcR.z) i off p = ⟨0, 13, d, l.map ZcR.z⟩ := by unfold spSp; rw [if_neg h1]
    rw [hR]
    refine (dsp_no i off p h (by rw [List.length_map] at h1; simpa using h1)).mono ?_
    rintro e w' ⟨rfl, hb⟩
    exact ⟨rfl, DvTo.same h hb⟩
def lnD (zs : List ZsR) (i : Int) : Int := if dhB zs.length i = true then ((zsat zs i).ss.length : Int) else 0
theorem cln7 (i : Int) (h : DvAt lo w D vz d l) : Calls Try.prog 13 #[.pointer (some ⟨D, 0, none⟩), .int .i64 i] w fun e w' => e = .returned (.int .i64 (lnD (l.map ZcR.z) i)) ∧ w = w' := by
  unfold lnD
  by_cases h1 : dhB (l.map ZcR.z).length i = true
  · obtain ⟨i0, i1⟩ := dhB_in h1
    obtain ⟨k, rfl⟩ := Int.eq_ofNat_of_zero_le i0
    obtain ⟨c, hc⟩ := cof (l := l) (k := k) (by omega)
    rw [if_pos h1, zsat_of (zof hc)]
    exact dlen_ok h hc
  · rw [if_neg h1]
    exact dlen_no i h (by rw [List.length_map] at h1; simpa using h1)
end
end Go.Proofs.Ytajkajgnjcnolaa

