import Derived.Test.YtlngdndamgopeaaMg05
import Derived.OrdersHeld
import Derived.Deep.RegionHeld
import Derived.Test.YtlngdndamgopeaaMg03
/-
  Contracts of layer 4 (entry), fifth part: Of, among, Frame, Read and Fill.
-/
namespace Go.Proofs.Ytlngdndamgopeaa
open Go.RowKit CrcM
set_option linter.unusedVariables false
set_option linter.unnecessarySimpa false
set_option linter.unusedSimpArgs false

/-- An entry, and an error or none. -/
def EnP (e : EnR) (x : Int) (w : World) (en : Ending) (w' : World) : Prop := en = .returned (.tuple #[.agg (enA e), .int .i64 x]) ∧ Below w.heap.size w w'

/-- Is a body an entry's of a kind? -/
def ofB (k : Int) (bs : List Nat) : Bool := rB (sd k bs) && decide (ebod (sd k bs) = bs)
def ofV (k : Int) (bs : List Nat) : EnR := if ofB k bs = true then sd k bs else en0
def ofE (k : Int) (bs : List Nat) : Int := if ofB k bs = true then 0 else 10
theorem ofV_ok {k : Int} {bs : List Nat} (h : ofB k bs = true) : ofV k bs = sd k bs := if_pos h
theorem ofE_ok {k : Int} {bs : List Nat} (h : ofB k bs = true) : ofE k bs = 0 := if_pos h
theorem ofV_bad {k : Int} {bs : List Nat} (h : ofB k bs = false) : ofV k bs = en0 := if_neg (by rw [h]; decide)
theorem ofE_bad {k : Int} {bs : List Nat} (h : ofB k bs = false) : ofE k bs = 10 := if_neg (by rw [h]; decide)
theorem ofV_len {k : Int} {bs : List Nat} (h : bs.length = 44) : (ofV k bs).y.length = 32 := by
  unfold ofV; split
  · exact sd_len h
  · exact en0_len
theorem ofV_lt {k : Int} {bs : List Nat} (h : ∀ c ∈ bs, c < 256) : ∀ c ∈ (ofV k bs).y, c < 256 := by
  unfold ofV; split
  · exact sd_lt h
  · exact zeros_lt 32
/-- Is s one of an entry's numbers? -/
def amB (e : EnR) (s : Int) : Bool := decide (e.f ≤ s) && decide (s - e.f < e.c)

/-- A filled block. -/
def fillL (x : Nat) : List Nat := List.replicate 32 x
theorem fillL_len (x : Nat) : (fillL x).length = 32 := by simp [fillL]
theorem fillL_lt {x : Nat} (h : x < 256) : ∀ c ∈ fillL x, c < 256 := by intro c hc; rw [(List.mem_replicate.1 hc).2]; exact h
theorem fill_set (x j : Nat) (hj : j < 32) : (List.replicate j x ++ zeros (32 - j)).set j x = List.replicate (j + 1) x ++ zeros (32 - (j + 1)) := by
  rw [List.set_append_right _ _ (by simp), List.length_replicate, Nat.sub_self, List.replicate_succ', List.append_assoc]
  congr 1
  have e : zeros (32 - j) = 0 :: zeros (32 - (j + 1)) := by
    unfold zeros; rw [show 32 - j = (32 - (j + 1)) + 1 by omega, List.replicate_succ]
  rw [e, List.set_cons_zero]
  rfl

end Go.Proofs.Ytlngdndamgopeaa

/-
  Contracts of layer 4 (entry), sixth part: Frame and Read.
-/
namespace Go.Proofs.Ytlngdndamgopeaa
open Go.RowKit CrcM
set_option linter.unusedVariables false
set_option linter.unnecessarySimpa false
set_option linter.unusedSimpArgs false

/-- Has an entry a frame there? -/
def frmB (e : EnR) (z o ep sq : Int) : Bool := rB e && amB e sq && rightB ⟨e.k, z, o, ep, sq, ebod e⟩
def frmV (e : EnR) (z o ep sq : Int) : FrR := if frmB e z o ep sq = true then ⟨e.k, z, o, ep, sq, ebod e⟩ else fr0
def frmE (e : EnR) (z o ep sq : Int) : Int := if frmB e z o ep sq = true then 0 else 10
theorem frmV_ok {e : EnR} {z o ep sq : Int} (h : frmB e z o ep sq = true) : frmV e z o ep sq = ⟨e.k, z, o, ep, sq, ebod e⟩ := if_pos h
theorem frmE_ok {e : EnR} {z o ep sq : Int} (h : frmB e z o ep sq = true) : frmE e z o ep sq = 0 := if_pos h
theorem frmV_bad {e : EnR} {z o ep sq : Int} (h : frmB e z o ep sq = false) : frmV e z o ep sq = fr0 := if_neg (by rw [h]; decide)
theorem frmE_bad {e : EnR} {z o ep sq : Int} (h : frmB e z o ep sq = false) : frmE e z o ep sq = 10 := if_neg (by rw [h]; decide)
theorem frmV_len {e : EnR} {z o ep sq : Int} (h : e.y.length = 32) : (frmV e z o ep sq).b.length = 44 := by
  unfold frmV; split
  · exact ebod_length h
  · exact fr0_len
/-- Is a frame an entry's? -/
def rdB (f : FrR) : Bool := ofB f.k f.b && frmB (sd f.k f.b) f.z f.o f.e f.s
def rdV (f : FrR) : EnR := if rdB f = true then sd f.k f.b else en0
def rdE (f : FrR) : Int := if rdB f = true then 0 else 10
theorem rdV_ok {f : FrR} (h : rdB f = true) : rdV f = sd f.k f.b := if_pos h
theorem rdE_ok {f : FrR} (h : rdB f = true) : rdE f = 0 := if_pos h
theorem rdV_bad {f : FrR} (h : rdB f = false) : rdV f = en0 := if_neg (by rw [h]; decide)
theorem rdE_bad {f : FrR} (h : rdB f = false) : rdE f = 10 := if_neg (by rw [h]; decide)
end Go.Proofs.Ytlngdndamgopeaa

/-
  Layer 4 (entry), seventh part: the document's Body.
-/
namespace Go.Proofs.Ytlngdndamgopeaa
open Go.RowKit CrcM
set_option linter.unusedVariables false
set_option linter.unnecessarySimpa false
set_option linter.unusedSimpArgs false

theorem OwnAt.nil (wb : World) : OwnAt wb wb (.slice none 0 0) [] := ⟨⟨by simp [bvals], .inl ⟨rfl, rfl⟩⟩, Below.refl _ _, by simp⟩

theorem fill_row (n : Nat) (R : List Nat) (j : Nat) (hj : j < n) (h : R.length = n) : (R.take j ++ zeros (n - j)).set j (R.getD j 0) = R.take (j + 1) ++ zeros (n - (j + 1)) := by
  have hl : (R.take j).length = j := by rw [List.length_take, h]; omega
  rw [List.set_append_right _ _ (by omega), hl, Nat.sub_self, take_snoc_nat R j (by omega), List.append_assoc]
  congr 1
  have e : zeros (n - j) = 0 :: zeros (n - (j + 1)) := by
    unfold zeros; rw [show n - j = (n - (j + 1)) + 1 by omega, List.replicate_succ]
  rw [e, List.set_cons_zero]
  rfl

end Go.Proofs.Ytlngdndamgopeaa

/-
  Layer 4 (entry), eighth part: the document's Of.
-/
namespace Go.Proofs.Ytlngdndamgopeaa
open Go.RowKit CrcM
set_option linter.unusedVariables false
set_option linter.unnecessarySimpa false
set_option linter.unusedSimpArgs false

/-- What a body says, all of it, right or not. -/
def doc (k : Int) (bs : List Nat) : EnR := ⟨k, (num (bs.take 6) : Nat), (num ((bs.drop 6).take 1) : Nat), (num ((bs.drop 7).take 1) : Nat), (num ((bs.drop 8).take 2) : Nat), (num ((bs.drop 10).take 2) : Nat), (bs.drop 12).take 32⟩
theorem doc_len {k : Int} {bs : List Nat} (h : bs.length = 44) : (doc k bs).y.length = 32 := by simp [doc, h]
theorem doc_lt {k : Int} {bs : List Nat} (h : ∀ c ∈ bs, c < 256) : ∀ c ∈ (doc k bs).y, c < 256 := fun c hc => h c (List.mem_of_mem_drop (List.mem_of_mem_take hc))

theorem row_midN {w : World} {g n : Nat} {bs : List Nat} (h : RowB w (some ⟨g, 0, none⟩) n n bs) (lo hi : Nat) (h1 : lo ≤ hi) (h2 : hi < n) : RowB w (some ⟨g, lo, none⟩) (hi - lo) (n - lo) ((bs.drop lo).take (hi - lo)) := by
  have h3 := (h.from lo (by omega)).to (hi - lo) (by omega)
  have e : slAddr (some ⟨g, 0, none⟩) n lo = some ⟨g, lo, none⟩ := by unfold slAddr; rw [if_neg (by omega)]; simp [Addr.add_mid]
  rw [e] at h3
  exact h3

theorem enA_setY (e : EnR) (j c : Nat) (hj : j < e.y.length) : (enA e).setIfInBounds (6 + j) (.int .u8 (c : Nat)) = enA { e with y := e.y.set j c } := by
  unfold enA mixA mixL enZ
  rw [List.setIfInBounds_toArray, List.set_append_right _ _ (by simp), ← bvals_set]
  simp

/-- Is a body an entry's of a kind, by the document? -/
def rofB (k : Int) (bs : List Nat) : Bool := rB (doc k bs)
def rofV (k : Int) (bs : List Nat) : EnR := if rofB k bs = true then doc k bs else en0
theorem rofV_ok {k : Int} {bs : List Nat} (h : rofB k bs = true) : rofV k bs = doc k bs := if_pos h
theorem rofV_bad {k : Int} {bs : List Nat} (h : rofB k bs = false) : rofV k bs = en0 := if_neg (by rw [h]; decide)

/-- What the document's Of tells. -/
def RofP (e : EnR) (b : Bool) (w : World) (en : Ending) (w' : World) : Prop := en = .returned (.tuple #[.agg (enA e), .bool b]) ∧ Below w.heap.size w w'

end Go.Proofs.Ytlngdndamgopeaa

/-
  Layer 4 (entry), ninth part: plain facts of entries and their bodies.
-/
namespace Go.Proofs.Ytlngdndamgopeaa
open Go.RowKit CrcM
set_option linter.unusedVariables false
set_option linter.unnecessarySimpa false
set_option linter.unusedSimpArgs false

theorem num_inj2 : ∀ xs ys : List Nat, xs.length = ys.length → (∀ c ∈ xs, c < 256) → (∀ c ∈ ys, c < 256) → num xs = num ys → xs = ys
  | [], [], _, _, _, _ => rfl
  | [], _ :: _, h, _, _, _ => by simp at h
  | _ :: _, [], h, _, _, _ => by simp at h
  | x :: xs, y :: ys, h, hx, hy, hn => by
    have h1 : x + 256 * num xs = y + 256 * num ys := hn
    have hx0 := hx x (by simp)
    have hy0 := hy y (by simp)
    have e : x = y := by omega
    subst e
    rw [num_inj2 xs ys (by simpa using h) (fun c hc => hx c (by simp [hc])) (fun c hc => hy c (by simp [hc])) (by omega)]

theorem leb_of_num (xs : List Nat) (n : Nat) (h : xs.length = n) (hb : ∀ c ∈ xs, c < 256) : leb n (num xs) = xs := by
  refine num_inj2 _ _ (by rw [leb_length, h]) (leb_lt _ _) hb ?_
  rw [leb_num]
  exact Nat.mod_eq_of_lt (by have := num_lt xs hb; rwa [h] at this)

theorem ebod_f (e : EnR) : (ebod e).take 6 = leb 6 e.f.toNat := by
  have h := part_mid [] (leb 6 e.f.toNat) (leb 1 e.c.toNat ++ leb 1 e.b.toNat ++ leb 2 e.m.toNat ++ leb 2 e.t.toNat ++ e.y) 0 6 rfl (by simp [leb_length])
  simpa [ebod, List.append_assoc] using h
theorem ebod_c (e : EnR) : ((ebod e).drop 6).take 1 = leb 1 e.c.toNat := by
  have h := part_mid (leb 6 e.f.toNat) (leb 1 e.c.toNat) (leb 1 e.b.toNat ++ leb 2 e.m.toNat ++ leb 2 e.t.toNat ++ e.y) 6 1 (by simp [leb_length]) (by simp [leb_length])
  simpa [ebod, List.append_assoc] using h
theorem ebod_b (e : EnR) : ((ebod e).drop 7).take 1 = leb 1 e.b.toNat := by
  have h := part_mid (leb 6 e.f.toNat ++ leb 1 e.c.toNat) (leb 1 e.b.toNat) (leb 2 e.m.toNat ++ leb 2 e.t.toNat ++ e.y) 7 1 (by simp [leb_length]) (by simp [leb_length])
  simpa [ebod, List.append_assoc] using h
theorem ebod_m (e : EnR) : ((ebod e).drop 8).take 2 = leb 2 e.m.toNat := by
  have h := part_mid (leb 6 e.f.toNat ++ leb 1 e.c.toNat ++ leb 1 e.b.toNat) (leb 2 e.m.toNat) (leb 2 e.t.toNat ++ e.y) 8 2 (by simp [leb_length]) (by simp [leb_length])
  simpa [ebod, List.append_assoc] using h
theorem ebod_t (e : EnR) : ((ebod e).drop 10).take 2 = leb 2 e.t.toNat := by
  have h := part_mid (leb 6 e.f.toNat ++ leb 1 e.c.toNat ++ leb 1 e.b.toNat ++ leb 2 e.m.toNat) (leb 2 e.t.toNat) e.y 10 2 (by simp [leb_length]) (by simp [leb_length])
  simpa [ebod, List.append_assoc] using h
theorem ebod_y (e : EnR) (h : e.y.length = 32) : ((ebod e).drop 12).take 32 = e.y := by
  have h := part_mid (leb 6 e.f.toNat ++ leb 1 e.c.toNat ++ leb 1 e.b.toNat ++ leb 2 e.m.toNat ++ leb 2 e.t.toNat) e.y [] 12 32 (by simp [leb_length]) h
  simpa [ebod, List.append_assoc] using h

theorem doc_ebod (e : EnR) (hr : rB e = true) (hl : e.y.length = 32) : doc e.k (ebod e) = e := by
  obtain ⟨⟨h1, h2⟩, ⟨h3, h4⟩, ⟨h5, h6⟩, ⟨h7, h8⟩, h9, h10⟩ := rB_ranges hr
  unfold doc
  rw [ebod_f, ebod_c, ebod_b, ebod_m, ebod_t, ebod_y e hl, num_back 6 e.f h1 (by omega), num_back 1 e.c (by omega) (by omega), num_back 1 e.b h3 (by omega), num_back 2 e.m h9 (by omega), num_back 2 e.t h5 (by omega)]

theorem parts_all (bs : List Nat) (h : bs.length = 44) : bs.take 6 ++ (bs.drop 6).take 1 ++ (bs.drop 7).take 1 ++ (bs.drop 8).take 2 ++ (bs.drop 10).take 2 ++ (bs.drop 12).take 32 = bs := by
  have step : ∀ j k, bs.take j ++ (bs.drop j).take k = bs.take (j + k) := fun j k => by
    rw [List.take_add]
  rw [step 6 1, step 7 1, step 8 2, step 10 2, step 12 32]
  exact List.take_of_length_le (by omega)

theorem ebod_doc (k : Int) (bs : List Nat) (hl : bs.length = 44) (hb : ∀ c ∈ bs, c < 256) : ebod (doc k bs) = bs := by
  have back : ∀ j n, j + n ≤ 44 → leb n (num ((bs.drop j).take n)) = (bs.drop j).take n := fun j n h =>
    leb_of_num _ n (by rw [List.length_take, List.length_drop, hl]; omega) (fun c hc => hb c (List.mem_of_mem_drop (List.mem_of_mem_take hc)))
  unfold ebod doc
  simp only [Int.toNat_natCast]
  rw [show leb 6 (num (bs.take 6)) = bs.take 6 from back 0 6 (by decide), back 6 1 (by decide), back 7 1 (by decide), back 8 2 (by decide), back 10 2 (by decide)]
  exact parts_all bs hl

theorem doc_k (k : Int) (bs : List Nat) : (doc k bs).k = k := rfl
theorem sd_k (k : Int) (bs : List Nat) : (sd k bs).k = k := rfl

theorem sd_doc {k : Int} {bs : List Nat} (h : rofB k bs = true) : sd k bs = doc k bs := by
  obtain ⟨_, _, _, h4⟩ := (rB_iff _).1 h
  by_cases hk : k = 2
  · subst hk
    have hy : (doc 2 bs).y = zeros 32 := by
      rcases h4 with h | h | h
      · exact absurd h.1 (by rw [doc_k]; decide)
      · exact h.2.2.2
      · exact absurd h.1 (by rw [doc_k]; decide)
    rw [sd_trim, ← hy]; rfl
  · have hm : (doc k bs).m = 0 := by
      rcases h4 with h | h | h
      · exact h.2.2
      · exact absurd h.1 hk
      · exact h.2.2
    rw [sd_other hk, ← hm]; rfl

theorem of_doc {k : Int} {bs : List Nat} (hl : bs.length = 44) (h : ofB k bs = true) : sd k bs = doc k bs ∧ rofB k bs = true := by
  unfold ofB at h
  simp only [Bool.and_eq_true, decide_eq_true_eq] at h
  have e := doc_ebod (sd k bs) h.1 (sd_len hl)
  rw [h.2, sd_k] at e
  exact ⟨e.symm, by unfold rofB; rw [e]; exact h.1⟩

theorem of_eq (k : Int) (bs : List Nat) (hl : bs.length = 44) (hb : ∀ c ∈ bs, c < 256) : ofB k bs = rofB k bs := by
  cases h : rofB k bs with
  | true =>
    have e := sd_doc h
    unfold ofB
    rw [e, show rB (doc k bs) = true from h, decide_eq_true (ebod_doc k bs hl hb)]
    rfl
  | false =>
    cases h' : ofB k bs with
    | false => rfl
    | true => rw [(of_doc hl h').2] at h; cases h

theorem ofV_eq (k : Int) (bs : List Nat) (hl : bs.length = 44) (hb : ∀ c ∈ bs, c < 256) : ofV k bs = rofV k bs := by
  cases h : rofB k bs with
  | true => rw [ofV_ok ((of_eq k bs hl hb).trans h), rofV_ok h, sd_doc h]
  | false => rw [ofV_bad ((of_eq k bs hl hb).trans h), rofV_bad h]

/-- A right entry is read from its body. -/
theorem rof_ebod {e : EnR} (hr : rB e = true) (hl : e.y.length = 32) : rofB e.k (ebod e) = true := by
  unfold rofB; rw [doc_ebod e hr hl]; exact hr
theorem of_ebod {e : EnR} (hr : rB e = true) (hl : e.y.length = 32) (hb : ∀ c ∈ e.y, c < 256) : ofB e.k (ebod e) = true ∧ sd e.k (ebod e) = e := by
  have h := rof_ebod hr hl
  exact ⟨(of_eq _ _ (ebod_length hl) (ebod_lt hb)).trans h, (sd_doc h).trans (doc_ebod e hr hl)⟩

theorem ebod_inj {e g : EnR} (he : rB e = true) (hg : rB g = true) (hk : e.k = g.k) (hle : e.y.length = 32) (hlg : g.y.length = 32) : ebod e = ebod g ↔ e = g := by
  constructor
  · intro h
    have h1 := doc_ebod e he hle
    rw [h, hk, doc_ebod g hg hlg] at h1
    exact h1.symm
  · rintro rfl; rfl

/-- What a frame of an entry is read as. -/
theorem rd_frm {e : EnR} {z o ep sq : Int} (h : frmB e z o ep sq = true) (hl : e.y.length = 32) (hb : ∀ c ∈ e.y, c < 256) : rdB (frmV e z o ep sq) = true ∧ rdV (frmV e z o ep sq) = e := by
  rw [frmV_ok h]
  have hr : rB e = true := by unfold frmB at h; simp only [Bool.and_eq_true] at h; exact h.1.1
  obtain ⟨h1, h2⟩ := of_ebod hr hl hb
  have hh : rdB ⟨e.k, z, o, ep, sq, ebod e⟩ = true := by unfold rdB; rw [h1, h2]; exact h
  exact ⟨hh, by rw [rdV_ok hh]; exact h2⟩

/-- Which frames are an entry's. -/
theorem rdB_eq (f : FrR) (hl : f.b.length = 44) (hb : ∀ c ∈ f.b, c < 256) : rdB f = (rofB f.k f.b && amB (doc f.k f.b) f.s && rightB f) := by
  unfold rdB
  rw [of_eq _ _ hl hb]
  cases h : rofB f.k f.b with
  | false => rfl
  | true =>
    rw [sd_doc h]
    unfold frmB
    rw [show rB (doc f.k f.b) = true from h, doc_k, ebod_doc _ _ hl hb]
    rfl

theorem frm_rd {f : FrR} (h : rdB f = true) (hl : f.b.length = 44) (hb : ∀ c ∈ f.b, c < 256) : rdV f = rofV f.k f.b ∧ frmB (rdV f) f.z f.o f.e f.s = true ∧ frmV (rdV f) f.z f.o f.e f.s = f := by
  have h0 := h
  unfold rdB at h
  simp only [Bool.and_eq_true] at h
  have h1 := (of_eq _ _ hl hb).symm.trans h.1
  rw [rdV_ok h0]
  refine ⟨by rw [rofV_ok h1]; exact sd_doc h1, h.2, ?_⟩
  rw [frmV_ok h.2, sd_k, sd_doc h1, ebod_doc _ _ hl hb]

end Go.Proofs.Ytlngdndamgopeaa

/-
  Layer 4 (entry), tenth part: the laws' anchor.
-/
namespace Go.Proofs.Ytlngdndamgopeaa
open Go.RowKit CrcM
set_option linter.unusedVariables false
set_option linter.unnecessarySimpa false
set_option linter.unusedSimpArgs false

/-- The anchor's entry. -/
def enM : EnR := ⟨2, 5, 1, 9, 1, 0, zeros 32⟩
theorem enM_len : enM.y.length = 32 := zeros_length 32
theorem enM_lt : ∀ c ∈ enM.y, c < 256 := zeros_lt 32
theorem enM_right : rB enM = true := by decide +kernel
theorem enM_frame : frmB enM 3 4 1 5 = true := by decide +kernel

end Go.Proofs.Ytlngdndamgopeaa

/-
  A part of a struct, an array of bytes, is written whole. No Go text here.
-/
namespace Go.Proofs.Ytlngdndamgopeaa
open Go.RowKit CrcM
set_option linter.unusedVariables false
set_option linter.unnecessarySimpa false
set_option linter.unusedSimpArgs false

theorem splice_cons (L : List Value) (o : Nat) (v : Value) (r : List Value) (h : o + (v :: r).length ≤ L.length) : splice (L.set o v) (o + 1) r = splice L o (v :: r) := by
  simp only [List.length_cons] at h
  unfold splice
  have h1 : (L.set o v).take (o + 1) = L.take o ++ [v] := by
    rw [List.take_add_one, List.take_set_of_le (Nat.le_refl o), List.getElem?_set_self (by omega)]
    rfl
  have h2 : (L.set o v).drop (o + 1 + r.length) = L.drop (o + (v :: r).length) := by
    rw [List.drop_set_of_lt (by omega), List.length_cons]
    congr 1; omega
  rw [h1, h2]
  simp

theorem blk_setCells {g : Nat} {t : TypeId} : ∀ (vs : List Value) (o : Nat) (w : World) (L : List Value), Blk w g t L.toArray → o + vs.length ≤ L.length → Blk (w.setCells g o vs) g t (splice L o vs).toArray
  | [], o, w, L, h, _ => by simpa [splice, World.setCells] using h
  | v :: r, o, w, L, h, hf => by
    have h1 := h.set o v
    rw [List.setIfInBounds_toArray] at h1
    have h2 := blk_setCells r (o + 1) _ (L.set o v) h1 (by simp only [List.length_cons, List.length_set] at *; omega)
    rw [splice_cons L o v r hf] at h2
    exact h2

theorem kept_setCells {g : Nat} {w0 : World} : ∀ (vs : List Value) (o : Nat) (w : World), Kept (· = g) w0 w → Kept (· = g) w0 (w.setCells g o vs)
  | [], _, _, h => h
  | v :: r, o, w, h => kept_setCells r (o + 1) _ (h.setCell rfl v)

theorem blk_there {w : World} {g : Nat} {t : TypeId} {L : List Value} (h : Blk w g t L.toArray) (o n : Nat) (hf : o + n ≤ L.length) : w.there g o n := fun j hj => by
  refine ⟨?_, h.frozen _⟩
  rw [h.cell]
  simp [show o + j < L.length by omega]

theorem wpl_store_mid {P : Program} {w : World} {ops : Array Oper} {rest : List Oper} {op : Oper} {a : Act} {Q : Exit → Act → World → Prop} (hgd : op.guard = none) (ty : TypeId) (x y : Operand) (ho : op.op = .store ty x y)
    (g i : Nat) (xs : List Nat) (hx : a.eval x = .pointer (some ⟨g, i, none⟩)) (hy : a.eval y = .agg (bA xs)) (t : TypeId) (L : List Value) (hg : Blk w g t L.toArray) (hf : i + xs.length ≤ L.length) (hi : (P.info? ty).map (·.size) = some (bA xs).size)
    (h : ∀ w', Blk w' g t (splice L i (bvals xs)).toArray → Kept (· = g) w w' → wpList P ops Q rest (a.put op.dst undef) w') : wpList P ops Q (op :: rest) a w := by
  refine wpList_store_mid hgd ty x y ho g i (bA xs) hx hy (blk_there hg i _ (by rw [bA_size]; exact hf)) hi (bA_one _) ?_
  refine h _ ?_ (kept_setCells _ _ _ (Kept.refl _ _))
  exact blk_setCells (bvals xs) i w L hg (by rw [bvals_length]; exact hf)

end Go.Proofs.Ytlngdndamgopeaa

/-
  Layer 7 (zdev): zones whose sectors are arrays of 64 bytes, as they read; rows of such arrays.
-/
namespace Go.Proofs.Ytlngdndamgopeaa
open Go.RowKit
set_option linter.unusedVariables false
set_option linter.unnecessarySimpa false
set_option linter.unusedSimpArgs false

/-- Arrays of 64 bytes, one behind the other. -/
def flat (ss : List (List Nat)) : List Value := (ss.map bvals).flatten
theorem flat_length {ss : List (List Nat)} (h : ∀ s ∈ ss, s.length = 64) : (flat ss).length = ss.length * 64 := by
  induction ss with
  | nil => rfl
  | cons s ss ih =>
    have h1 := h s (by simp)
    have h2 := ih (fun t ht => h t (by simp [ht]))
    unfold flat at *
    simp only [List.map_cons, List.flatten_cons, List.length_append, bvals_length, List.length_cons, h1, h2]
    omega
theorem flat_append (a b : List (List Nat)) : flat (a ++ b) = flat a ++ flat b := by simp [flat]
theorem flat_one (s : List Nat) : flat [s] = bvals s := by simp [flat]
theorem flat_ones (ss : List (List Nat)) : ∀ u ∈ flat ss, u.oneCell' = true := by
  intro u hu
  unfold flat at hu
  obtain ⟨l, hl, hu⟩ := List.mem_flatten.1 hu
  obtain ⟨s, _, rfl⟩ := List.mem_map.1 hl
  exact bvals_one s u hu
theorem flat_take {ss : List (List Nat)} (h : ∀ s ∈ ss, s.length = 64) (n : Nat) : (flat ss).take (n * 64) = flat (ss.take n) := by
  induction ss generalizing n with
  | nil => simp [flat]
  | cons s ss ih =>
    cases n with
    | zero => simp [flat]
    | succ n =>
      have h1 := h s (by simp)
      have h2 := ih (fun t ht => h t (by simp [ht])) n
      unfold flat at *
      simp only [List.map_cons, List.flatten_cons, List.take_succ_cons]
      rw [List.take_append, List.take_of_length_le (by rw [bvals_length, h1]; omega), bvals_length, h1, show (n + 1) * 64 - 64 = n * 64 by omega, h2]
/-- Element i of them. -/
theorem flat_at {ss : List (List Nat)} (h : ∀ s ∈ ss, s.length = 64) (i : Nat) (hi : i < ss.length) (j : Nat) (hj : j < 64) : (flat ss)[i * 64 + j]? = (bvals (ss.getD i []))[j]? := by
  induction ss generalizing i with
  | nil => simp at hi
  | cons s ss ih =>
    have h1 := h s (by simp)
    unfold flat at *
    simp only [List.map_cons, List.flatten_cons]
    cases i with
    | zero =>
      rw [Nat.zero_mul, Nat.zero_add, List.getElem?_append_left (by rw [bvals_length, h1]; exact hj)]
      rfl
    | succ i =>
      rw [List.getElem?_append_right (by rw [bvals_length, h1]; omega), bvals_length, h1, show (i + 1) * 64 + j - 64 = i * 64 + j by omega]
      exact ih (fun t ht => h t (by simp [ht])) i (by simpa using hi)

section
variable {S : Nat → Prop} {w w' : World} {lo sz : Nat} {E : TypeId} {v : Value} {xs : List Value} {n : Nat}
theorem ownK_below (h : w.ownsRow lo E sz v n xs) (hb : Below w.heap.size w w') : w'.ownsRow lo E sz v n xs :=
  own_kept h (Kept.of_below (S := fun _ => False) hb) (fun _ _ h => h)
theorem ownK_cap {a : Option Addr} {m cap : Nat} (h : w.ownsRow lo E sz (.slice a m cap) n xs) : m = n ∧ n ≤ cap ∧ cap ≤ maxLen := by
  rcases h.2 with ⟨h1, h2⟩ | ⟨g, c, cur, h1, _, _, h3, h4, _⟩
  · obtain ⟨_, rfl, rfl⟩ : a = none ∧ m = 0 ∧ cap = 0 := by simpa using h1
    exact ⟨by omega, by omega, Nat.zero_le _⟩
  · obtain ⟨_, rfl, rfl⟩ : a = some ⟨g, 0, none⟩ ∧ m = n ∧ cap = c := by simpa using h1
    exact ⟨rfl, h3, h4⟩
theorem ownK_same (h : w.ownsRow lo E sz v n xs) (hk : ∀ g, v.ownBlock = some g → w'.heap[g]? = w.heap[g]?) : w'.ownsRow lo E sz v n xs := by
  obtain ⟨h1, h2⟩ := h
  refine ⟨h1, ?_⟩
  rcases h2 with h2 | ⟨g, cap, cur, rfl, hg, hh, r⟩
  · exact .inl h2
  · exact .inr ⟨g, cap, cur, rfl, hg, (hk g rfl).trans hh, r⟩
theorem ownK_nil (lo : Nat) (E : TypeId) (sz : Nat) (w : World) : w.ownsRow lo E sz (.slice none 0 0) 0 [] := ⟨by simp, .inl ⟨rfl, rfl⟩⟩
theorem ownK_form {a : Option Addr} {m cap : Nat} (h : w.ownsRow lo E sz (.slice a m cap) n xs) (hn : 0 < n) : ∃ g, a = some ⟨g, 0, none⟩ ∧ lo ≤ g ∧ g < w.heap.size := by
  obtain ⟨g, c, hv, h1, h2⟩ := h.form hn
  obtain ⟨rfl, _⟩ : a = some ⟨g, 0, none⟩ ∧ _ := by simpa using hv
  exact ⟨g, rfl, h1, h2⟩
theorem ownK_src {a : Option Addr} {m cap : Nat} (h : w.ownsRow lo E sz (.slice a m cap) n xs) : (a = none → cap = 0 ∧ m = 0) ∧ ∀ ad, a = some ad → ∀ j u, xs[j]? = some u → w.cell? (ad.add j) = some u := by
  refine ⟨fun e => ?_, fun ad e j u hu => ?_⟩
  · subst e
    rcases h.2 with ⟨h1, h2⟩ | ⟨g, c, cur, h1, _⟩
    · obtain ⟨rfl, rfl⟩ : m = 0 ∧ cap = 0 := by simpa using h1
      exact ⟨rfl, rfl⟩
    · simp at h1
  · subst e
    have hm := (ownK_cap h).1
    subst hm
    have hj : j < m * sz := by
      have hl := h.1
      by_cases hj : j < xs.length
      · omega
      · rw [List.getElem?_eq_none (by omega)] at hu; cases hu
    obtain ⟨g, hg, _, _⟩ := ownK_form h (by by_cases h0 : 0 < m; · exact h0
                                            · obtain rfl : m = 0 := by omega
                                              simp at hj)
    obtain rfl : ad = ⟨g, 0, none⟩ := by simpa using hg
    have hadd : (⟨g, 0, none⟩ : Addr).add j = ⟨g, j, none⟩ := by have := Addr.add_mid g 0 j; rwa [Nat.zero_add] at this
    rw [hadd, h.cellAt j hj, hu]
end
/-- Arrays of 64 bytes, and slices of them. -/
structure ElS (P : Program) (S E : TypeId) : Prop where
  und : P.underlying S = some (.slice E)
  info : ∃ i z, P.info? E = some i ∧ i.zero = some z ∧ i.size = 64 ∧ i.bytes = 64 ∧ z.cells.size = 64
section
variable {P : Program} {w : World} {ops : Array Oper} {rest : List Oper} {o : Oper} {a : Act} {K : Act → World → Prop} {Q : Exit → Act → World → Prop} {S E : TypeId}
/-- append, as one operation: what lies at an address, or nothing. -/
theorem wpo_appendS (T : ElS P S E) (s x : Operand) (ho : o.op = .call { callee := .builtin .append, args := #[s, x], argTypes := #[S, S] })
    (base : Nat) (v : Value) (n : Nat) (xs : List Value) (hs : a.eval s = v) (hown : w.ownsRow base E 64 v n xs)
    (sp : Option Addr) (m c : Nat) (ds : List Value) (hx : a.eval x = .slice sp m c) (hl : ds.length = m * 64) (hnil : sp = none → c = 0 ∧ m = 0) (hsrc : ∀ ad, sp = some ad → ∀ j u, ds[j]? = some u → w.cell? (ad.add j) = some u) (h1 : ∀ u ∈ ds, u.oneCell' = true)
    (h63 : n + m ≤ 100000000000) (hbase : base ≤ w.heap.size)
    (h : ∀ v' w', w'.ownsRow base E 64 v' (n + m) (xs ++ ds) → w.grownBy w' v.ownBlock → (v'.ownBlock = v.ownBlock ∨ v'.ownBlock = some w.heap.size) → K (a.put o.dst v') w') : Oper.wp P o a w K Q := by
  obtain ⟨i0, z0, hi, hz0, hz1, hz2, hz3⟩ := T.info
  cases sp with
  | none =>
    obtain ⟨rfl, rfl⟩ := hnil rfl
    obtain rfl : ds = [] := List.length_eq_zero_iff.1 (by omega)
    have hr := run_append_owned_none (P := P) w base S o.type E i0 64 T.und hi v n xs hown
    unfold Oper.wp execOp
    simp only [ho, resolve, invoke, builtin, Sem.run_bind, Sem.run_pure, Result.andThen_ok, List.map_toArray, List.map_cons, List.map_nil, hs, hx, hr]
    exact h v w (by simpa using hown) ⟨rfl, rfl, rfl, Nat.le_refl _, fun _ _ _ => rfl⟩ (.inl rfl)
  | some ad =>
    obtain ⟨v', w', hr, h2, h3, _, h5⟩ := run_append_own_at (P := P) w base S o.type E i0 z0 64 64 T.und hi hz0 hz1 hz2 hz3 (by decide) v n xs hown ad m c ds (by omega) (hsrc ad rfl) h1 (by unfold maxLen; omega) (by omega) hbase
    unfold Oper.wp execOp
    simp only [ho, resolve, invoke, builtin, Sem.run_bind, Sem.run_pure, Result.andThen_ok, List.map_toArray, List.map_cons, List.map_nil, hs, hx, hr]
    exact h v' w' h2 h3 h5
/-- The place of an element. -/
theorem exec_indexS (T : ElS P S E) (x ix : Operand) (ho : o.op = .indexAddr S x ix) (g n c i : Nat) (hx : a.eval x = .slice (some ⟨g, 0, none⟩) n c) (hix : a.eval ix = .int .i64 (i : Nat)) (hi : i < n) : (execOp a.eval o).run P w = .ok (.value (.pointer (some ⟨g, i * 64, none⟩))) w := by
  obtain ⟨i0, z0, hi0, hz0, hz1, hz2, hz3⟩ := T.info
  have hb : (0 : Int) ≤ (i : Nat) ∧ ((i : Nat) : Int) < (n : Nat) := by omega
  have hadd : (⟨g, 0, none⟩ : Addr).add (i * 64) = ⟨g, i * 64, none⟩ := by have := Addr.add_mid g 0 (i * 64); rwa [Nat.zero_add] at this
  unfold execOp
  simp only [ho, hx, hix]
  simp [Instr.indexAt, asIntOf, run_underlying T.und, sizeOf, typeInfo, hi0, hb, hz1, hadd, hi]
end

/-- A zone as it reads. -/
structure ZsR where
  size : Int
  safe : Int
  fin : Bool
  failed : Int
  ss : List (List Nat)

/-- A zone's cells; v: its sectors. -/
def zsA (z : ZsR) (v : Value) : Array Value := #[.int .i64 z.size, v, .int .i64 z.safe, .bool z.fin, .int .i64 z.failed]
theorem zsA_size (z : ZsR) (v : Value) : (zsA z v).size = 5 := rfl

/-- What may be. -/
structure ZsOk (z : ZsR) : Prop where
  size : 1 ≤ z.size ∧ z.size ≤ 64
  len : (z.ss.length : Int) ≤ z.size
  safe : 0 ≤ z.safe ∧ z.safe ≤ (z.ss.length : Int)
  failed : z.failed = 0 ∨ z.failed = 3 ∨ z.failed = 4
  w64 : ∀ s ∈ z.ss, s.length = 64
  lt : ∀ s ∈ z.ss, ∀ c ∈ s, c < 256

/-- A zone lies at block A, its sectors in v; all beyond lo. -/
structure ZsAt (T E : TypeId) (lo : Nat) (w : World) (A : Nat) (v : Value) (z : ZsR) : Prop where
  blk : Blk w A T (zsA z v)
  own : w.ownsRow lo E 64 v z.ss.length (flat z.ss)
  le : lo ≤ A

section
variable {S : Nat → Prop} {T E : TypeId} {lo A : Nat} {w w' : World} {v : Value} {z z' : ZsR}
theorem ZsAt.kept (h : ZsAt T E lo w A v z) (k : Kept S w w') (hn : ∀ i, ZF A v i → ¬ S i) : ZsAt T E lo w' A v z :=
  ⟨h.blk.kept k (hn A (.inl rfl)), own_kept h.own k (fun g hg => hn g (.inr hg)), h.le⟩
theorem ZsAt.below (h : ZsAt T E lo w A v z) (hb : Below w.heap.size w w') : ZsAt T E lo w' A v z := h.kept (Kept.of_below (S := fun _ => False) hb) (fun _ _ h => h)
theorem ZsAt.lt (h : ZsAt T E lo w A v z) {k : Nat} (hk : ZF A v k) : k < w.heap.size := by
  rcases hk with rfl | hk
  · exact h.blk.lt
  · exact own_lt h.own hk
theorem ZsAt.slice (h : ZsAt T E lo w A v z) : ∃ a cap, v = .slice a z.ss.length cap ∧ z.ss.length ≤ cap ∧ cap ≤ maxLen := by
  obtain ⟨a, cap, rfl⟩ := own_slice h.own
  exact ⟨a, cap, rfl, (ownK_cap h.own).2⟩
theorem ZsAt.lov (h : ZsAt T E lo w A v z) {k : Nat} (hk : ZF A v k) : lo ≤ k := by
  rcases hk with rfl | hk
  · exact h.le
  · rcases h.own.2 with ⟨rfl, _⟩ | ⟨g, c, cur, rfl, hg, _⟩
    · simp [Value.ownBlock] at hk
    · obtain rfl : g = k := by simpa [Value.ownBlock] using hk
      exact hg

/-- What a step of the zone leaves. -/
def ZsTo (T E : TypeId) (lo : Nat) (w : World) (A : Nat) (v : Value) (z' : ZsR) (w' : World) : Prop :=
  ∃ v', ZsAt T E lo w' A v' z' ∧ Kept (ZF A v) w w' ∧ ∀ g, v'.ownBlock = some g → v.ownBlock = some g ∨ w.heap.size ≤ g
theorem ZsTo.same (h : ZsAt T E lo w A v z) (hb : Below w.heap.size w w') : ZsTo T E lo w A v z w' := ⟨v, h.below hb, Kept.of_below hb, fun _ h => .inl h⟩
theorem ZsTo.below {w1 : World} (h : ZsTo T E lo w A v z w1) (hb : Below w1.heap.size w1 w') : ZsTo T E lo w A v z w' := by
  obtain ⟨v', h1, h2, h3⟩ := h
  exact ⟨v', h1.below hb, h2.andThen (Kept.of_below (S := fun _ => False) hb) (fun _ _ h => h) (fun _ _ h => h.elim), h3⟩
theorem ZsTo.after {w1 : World} (hb : Below w.heap.size w w1) (h : ZsTo T E lo w1 A v z w') : ZsTo T E lo w A v z w' := by
  obtain ⟨v', h1, h2, h3⟩ := h
  refine ⟨v', h1, (Kept.of_below (S := fun _ => False) hb).andThen h2 (fun _ _ h => h.elim) (fun _ _ h => h), fun g hg => ?_⟩
  rcases h3 g hg with h | h
  · exact .inl h
  · exact .inr (Nat.le_trans hb.size h)
theorem ZsTo.then_ {w1 w2 : World} {z1 z2 : ZsR} (h : ZsTo T E lo w A v z1 w1) (k : ∀ v1, ZsAt T E lo w1 A v1 z1 → ZsTo T E lo w1 A v1 z2 w2) : ZsTo T E lo w A v z2 w2 := by
  obtain ⟨v1, h1, h2, h3⟩ := h
  obtain ⟨v2, k1, k2, k3⟩ := k v1 h1
  refine ⟨v2, k1, h2.andThen k2 (fun _ _ h => h) (fun i hi hz => ?_), fun g hg => ?_⟩
  · rcases hz with rfl | hz
    · exact .inl rfl
    · rcases h3 i hz with h | h
      · exact .inr h
      · omega
  · rcases k3 g hg with h | h
    · exact h3 g h
    · exact .inr (Nat.le_trans h2.size h)
theorem ZsTo.step {w1 w2 : World} {v1 : Value} {z2 : ZsR} (h2 : Kept (ZF A v) w w1) (h3 : ∀ g, v1.ownBlock = some g → v.ownBlock = some g ∨ w.heap.size ≤ g) (k : ZsTo T E lo w1 A v1 z2 w2) : ZsTo T E lo w A v z2 w2 := by
  obtain ⟨v2, k1, k2, k3⟩ := k
  refine ⟨v2, k1, h2.andThen k2 (fun _ _ h => h) (fun i hi hz => ?_), fun g hg => ?_⟩
  · rcases hz with rfl | hz
    · exact .inl rfl
    · rcases h3 i hz with h | h
      · exact .inr h
      · omega
  · rcases k3 g hg with h | h
    · exact h3 g h
    · exact .inr (Nat.le_trans h2.size h)
/-- A block of another kind stays. -/
theorem ZsTo.blk (h : ZsTo T E lo w A v z' w') (hz : ZsAt T E lo w A v z) {g : Nat} {t : TypeId} {cs : Array Value} (hb : Blk w g t cs) (h1 : t ≠ T) (h2 : t ≠ E) : Blk w' g t cs := by
  obtain ⟨v', _, k, _⟩ := h
  refine hb.kept k (fun hS => ?_)
  rcases hS with e | e
  · exact Blk.unlike hb hz.blk h1 e
  · exact own_unlike hz.own hb (fun e => h2 e.symm) e.symm
/-- Another row stays, and apart. -/
theorem ZsTo.row (h : ZsTo T E lo w A v z' w') (hz : ZsAt T E lo w A v z) {u : Value} {n : Nat} {ys : List Value} {E' : TypeId} {sz : Nat} (hu : w.ownsRow lo E' sz u n ys) (hT : E' ≠ T) (hs : ∀ g, u.ownBlock = some g → v.ownBlock ≠ some g) :
    ∃ v', ZsAt T E lo w' A v' z' ∧ Kept (ZF A v) w w' ∧ w'.ownsRow lo E' sz u n ys ∧ ∀ g, u.ownBlock = some g → v'.ownBlock ≠ some g := by
  obtain ⟨v', k1, k2, k3⟩ := h
  refine ⟨v', k1, k2, own_kept hu k2 (fun g hg hS => ?_), fun g hg e => ?_⟩
  · rcases hS with rfl | e
    · exact own_unlike hu hz.blk hT hg.symm
    · exact hs g hg e
  · rcases k3 g e with h | h
    · exact hs g hg h
    · have := own_lt hu hg; omega
/-- A row that was made since is apart. -/
theorem ownS_apart {w1 : World} {u : Value} (hz : ZsAt T E lo w A v z) (hu : ∀ g, u.ownBlock = some g → w.heap.size ≤ g) : ∀ g, u.ownBlock = some g → v.ownBlock ≠ some g := fun g hg e => by
  have := hz.lt (.inr e); have := hu g hg; omega
end


def refS (z : ZsR) : Int := if z.failed = 4 then 32 else if z.failed = 3 then 30 else 0
def stS (z : ZsR) : Int := if z.failed ≠ 0 then z.failed else if z.fin = true ∨ (z.ss.length : Int) = z.size then 2 else if (z.ss.length : Int) = 0 then 0 else 1
def holS (z : ZsR) (off : Int) : Bool := decide (0 ≤ off) && decide (off < (z.ss.length : Int))

end Go.Proofs.Ytlngdndamgopeaa

