/-
  Layer 4 (entry), ninth part: plain facts of entries and their bodies.
-/
import Derived.Test.YtdjnfikacjfkkaaEntryI
namespace Go.Proofs.Ytdjnfikacjfkkaa
open Go.RowKit CrcM
set_option linter.unusedVariables false
set_option linter.unnecessarySimpa false
set_option linter.unusedSimpArgs false

theorem num_inj2 : ∀ xs ys : List Nat, xs.length = ys.length → (∀ c ∈ xs, c < 256) → (∀ c ∈ ys, c < 256) → num xs = num ys → xs = ys
  | [], [], _, _, _, _ => rfl
  | [], _ :: _, h, _, _, _ => by simp at h
  | _ :: _, [], h, _, _, _ => by simp at h
  | x :: xs, y :: ys, h, hx, hy, hn => by
    have h1 : x + 256 * num xs = y + 256 * num ys := hn
    have hx0 := hx x (by simp)
    have hy0 := hy y (by simp)
    have e : x = y := by omega
    subst e
    rw [num_inj2 xs ys (by simpa using h) (fun c hc => hx c (by simp [hc])) (fun c hc => hy c (by simp [hc])) (by omega)]

theorem leb_of_num (xs : List Nat) (n : Nat) (h : xs.length = n) (hb : ∀ c ∈ xs, c < 256) : leb n (num xs) = xs := by
  refine num_inj2 _ _ (by rw [leb_length, h]) (leb_lt _ _) hb ?_
  rw [leb_num]
  exact Nat.mod_eq_of_lt (by have := num_lt xs hb; rwa [h] at this)

theorem ebod_f (e : EnR) : (ebod e).take 6 = leb 6 e.f.toNat := by
  have h := part_mid [] (leb 6 e.f.toNat) (leb 1 e.c.toNat ++ leb 1 e.b.toNat ++ leb 2 e.m.toNat ++ leb 2 e.t.toNat ++ e.y) 0 6 rfl (by simp [leb_length])
  simpa [ebod, List.append_assoc] using h
theorem ebod_c (e : EnR) : ((ebod e).drop 6).take 1 = leb 1 e.c.toNat := by
  have h := part_mid (leb 6 e.f.toNat) (leb 1 e.c.toNat) (leb 1 e.b.toNat ++ leb 2 e.m.toNat ++ leb 2 e.t.toNat ++ e.y) 6 1 (by simp [leb_length]) (by simp [leb_length])
  simpa [ebod, List.append_assoc] using h
theorem ebod_b (e : EnR) : ((ebod e).drop 7).take 1 = leb 1 e.b.toNat := by
  have h := part_mid (leb 6 e.f.toNat ++ leb 1 e.c.toNat) (leb 1 e.b.toNat) (leb 2 e.m.toNat ++ leb 2 e.t.toNat ++ e.y) 7 1 (by simp [leb_length]) (by simp [leb_length])
  simpa [ebod, List.append_assoc] using h
theorem ebod_m (e : EnR) : ((ebod e).drop 8).take 2 = leb 2 e.m.toNat := by
  have h := part_mid (leb 6 e.f.toNat ++ leb 1 e.c.toNat ++ leb 1 e.b.toNat) (leb 2 e.m.toNat) (leb 2 e.t.toNat ++ e.y) 8 2 (by simp [leb_length]) (by simp [leb_length])
  simpa [ebod, List.append_assoc] using h
theorem ebod_t (e : EnR) : ((ebod e).drop 10).take 2 = leb 2 e.t.toNat := by
  have h := part_mid (leb 6 e.f.toNat ++ leb 1 e.c.toNat ++ leb 1 e.b.toNat ++ leb 2 e.m.toNat) (leb 2 e.t.toNat) e.y 10 2 (by simp [leb_length]) (by simp [leb_length])
  simpa [ebod, List.append_assoc] using h
theorem ebod_y (e : EnR) (h : e.y.length = 32) : ((ebod e).drop 12).take 32 = e.y := by
  have h := part_mid (leb 6 e.f.toNat ++ leb 1 e.c.toNat ++ leb 1 e.b.toNat ++ leb 2 e.m.toNat ++ leb 2 e.t.toNat) e.y [] 12 32 (by simp [leb_length]) h
  simpa [ebod, List.append_assoc] using h

theorem doc_ebod (e : EnR) (hr : rB e = true) (hl : e.y.length = 32) : doc e.k (ebod e) = e := by
  obtain ⟨⟨h1, h2⟩, ⟨h3, h4⟩, ⟨h5, h6⟩, ⟨h7, h8⟩, h9, h10⟩ := rB_ranges hr
  unfold doc
  rw [ebod_f, ebod_c, ebod_b, ebod_m, ebod_t, ebod_y e hl, num_back 6 e.f h1 (by omega), num_back 1 e.c (by omega) (by omega), num_back 1 e.b h3 (by omega), num_back 2 e.m h9 (by omega), num_back 2 e.t h5 (by omega)]

theorem parts_all (bs : List Nat) (h : bs.length = 44) : bs.take 6 ++ (bs.drop 6).take 1 ++ (bs.drop 7).take 1 ++ (bs.drop 8).take 2 ++ (bs.drop 10).take 2 ++ (bs.drop 12).take 32 = bs := by
  have step : ∀ j k, bs.take j ++ (bs.drop j).take k = bs.take (j + k) := fun j k => by
    rw [List.take_add]
  rw [step 6 1, step 7 1, step 8 2, step 10 2, step 12 32]
  exact List.take_of_length_le (by omega)

theorem ebod_doc (k : Int) (bs : List Nat) (hl : bs.length = 44) (hb : ∀ c ∈ bs, c < 256) : ebod (doc k bs) = bs := by
  have back : ∀ j n, j + n ≤ 44 → leb n (num ((bs.drop j).take n)) = (bs.drop j).take n := fun j n h =>
    leb_of_num _ n (by rw [List.length_take, List.length_drop, hl]; omega) (fun c hc => hb c (List.mem_of_mem_drop (List.mem_of_mem_take hc)))
  unfold ebod doc
  simp only [Int.toNat_natCast]
  rw [show leb 6 (num (bs.take 6)) = bs.take 6 from back 0 6 (by decide), back 6 1 (by decide), back 7 1 (by decide), back 8 2 (by decide), back 10 2 (by decide)]
  exact parts_all bs hl

theorem doc_k (k : Int) (bs : List Nat) : (doc k bs).k = k := rfl
theorem sd_k (k : Int) (bs : List Nat) : (sd k bs).k = k := rfl

theorem sd_doc {k : Int} {bs : List Nat} (h : rofB k bs = true) : sd k bs = doc k bs := by
  obtain ⟨_, _, _, h4⟩ := (rB_iff _).1 h
  by_cases hk : k = 2
  · subst hk
    have hy : (doc 2 bs).y = zeros 32 := by
      rcases h4 with h | h | h
      · exact absurd h.1 (by rw [doc_k]; decide)
      · exact h.2.2.2
      · exact absurd h.1 (by rw [doc_k]; decide)
    rw [sd_trim, ← hy]; rfl
  · have hm : (doc k bs).m = 0 := by
      rcases h4 with h | h | h
      · exact h.2.2
      · exact absurd h.1 hk
      · exact h.2.2
    rw [sd_other hk, ← hm]; rfl

theorem of_doc {k : Int} {bs : List Nat} (hl : bs.length = 44) (h : ofB k bs = true) : sd k bs = doc k bs ∧ rofB k bs = true := by
  unfold ofB at h
  simp only [Bool.and_eq_true, decide_eq_true_eq] at h
  have e := doc_ebod (sd k bs) h.1 (sd_len hl)
  rw [h.2, sd_k] at e
  exact ⟨e.symm, by unfold rofB; rw [e]; exact h.1⟩

theorem of_eq (k : Int) (bs : List Nat) (hl : bs.length = 44) (hb : ∀ c ∈ bs, c < 256) : ofB k bs = rofB k bs := by
  cases h : rofB k bs with
  | true =>
    have e := sd_doc h
    unfold ofB
    rw [e, show rB (doc k bs) = true from h, decide_eq_true (ebod_doc k bs hl hb)]
    rfl
  | false =>
    cases h' : ofB k bs with
    | false => rfl
    | true => rw [(of_doc hl h').2] at h; cases h

theorem ofV_eq (k : Int) (bs : List Nat) (hl : bs.length = 44) (hb : ∀ c ∈ bs, c < 256) : ofV k bs = rofV k bs := by
  cases h : rofB k bs with
  | true => rw [ofV_ok ((of_eq k bs hl hb).trans h), rofV_ok h, sd_doc h]
  | false => rw [ofV_bad ((of_eq k bs hl hb).trans h), rofV_bad h]

/-- A right entry is read from its body. -/
theorem rof_ebod {e : EnR} (hr : rB e = true) (hl : e.y.length = 32) : rofB e.k (ebod e) = true := by
  unfold rofB; rw [doc_ebod e hr hl]; exact hr
theorem of_ebod {e : EnR} (hr : rB e = true) (hl : e.y.length = 32) (hb : ∀ c ∈ e.y, c < 256) : ofB e.k (ebod e) = true ∧ sd e.k (ebod e) = e := by
  have h := rof_ebod hr hl
  exact ⟨(of_eq _ _ (ebod_length hl) (ebod_lt hb)).trans h, (sd_doc h).trans (doc_ebod e hr hl)⟩

theorem ebod_inj {e g : EnR} (he : rB e = true) (hg : rB g = true) (hk : e.k = g.k) (hle : e.y.length = 32) (hlg : g.y.length = 32) : ebod e = ebod g ↔ e = g := by
  constructor
  · intro h
    have h1 := doc_ebod e he hle
    rw [h, hk, doc_ebod g hg hlg] at h1
    exact h1.symm
  · rintro rfl; rfl

/-- What a frame of an entry is read as. -/
theorem rd_frm {e : EnR} {z o ep sq : Int} (h : frmB e z o ep sq = true) (hl : e.y.length = 32) (hb : ∀ c ∈ e.y, c < 256) : rdB (frmV e z o ep sq) = true ∧ rdV (frmV e z o ep sq) = e := by
  rw [frmV_ok h]
  have hr : rB e = true := by unfold frmB at h; simp only [Bool.and_eq_true] at h; exact h.1.1
  obtain ⟨h1, h2⟩ := of_ebod hr hl hb
  have hh : rdB ⟨e.k, z, o, ep, sq, ebod e⟩ = true := by unfold rdB; rw [h1, h2]; exact h
  exact ⟨hh, by rw [rdV_ok hh]; exact h2⟩

/-- Which frames are an entry's. -/
theorem rdB_eq (f : FrR) (hl : f.b.length = 44) (hb : ∀ c ∈ f.b, c < 256) : rdB f = (rofB f.k f.b && amB (doc f.k f.b) f.s && rightB f) := by
  unfold rdB
  rw [of_eq _ _ hl hb]
  cases h : rofB f.k f.b with
  | false => rfl
  | true =>
    rw [sd_doc h]
    unfold frmB
    rw [show rB (doc f.k f.b) = true from h, doc_k, ebod_doc _ _ hl hb]
    rfl

theorem frm_rd {f : FrR} (h : rdB f = true) (hl : f.b.length = 44) (hb : ∀ c ∈ f.b, c < 256) : rdV f = rofV f.k f.b ∧ frmB (rdV f) f.z f.o f.e f.s = true ∧ frmV (rdV f) f.z f.o f.e f.s = f := by
  have h0 := h
  unfold rdB at h
  simp only [Bool.and_eq_true] at h
  have h1 := (of_eq _ _ hl hb).symm.trans h.1
  rw [rdV_ok h0]
  refine ⟨by rw [rofV_ok h1]; exact sd_doc h1, h.2, ?_⟩
  rw [frmV_ok h.2, sd_k, sd_doc h1, ebod_doc _ _ hl hb]

end Go.Proofs.Ytdjnfikacjfkkaa
