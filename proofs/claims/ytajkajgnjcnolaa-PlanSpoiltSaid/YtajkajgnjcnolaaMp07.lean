import Derived.Test.YtajkajgnjcnolaaMp05
import Derived.Test.YtajkajgnjcnolaaMp06
namespace Go.Proofs.Ytajkajgnjcnolaa
open Go.RowKit
set_option linter.unusedVariables false
set_option linter.unnecessarySimpa false
set_option linter.unusedSimpArgs false
structure ZcR where
  A : Nat
  v : Value
  z : ZsR
structure DvR where
  size : Int
  opn : Int
  count : Int
  down : Bool
def dvA (d : DvR) (vz : Value) : Array Value := #[vz, .int .i64 d.size, .int .i64 d.opn, .int .i64 d.count, .bool d.down]
def zptr (c : ZcR) : Value := .pointer (some ⟨c.A, 0, none⟩)
def DvF (D : Nat) (vz : Value) (l : List ZcR) (i : Nat) : Prop := i = D ∨ vz.ownBlock = some i ∨ ∃ c ∈ l, ZF c.A c.v i
structure DvAt (lo : Nat) (w : World) (D : Nat) (vz : Value) (d : DvR) (l : List ZcR) : Prop where
  blk : Blk w D 96 (dvA d vz)
  own : w.ownsRow lo 93 1 vz l.length (l.map zptr)
  each : ∀ (i : Nat) c, l[i]? = some c → ZsAt 114 34 lo w c.A c.v c.z
  apart : ∀ (i j : Nat) c e, l[i]? = some c → l[j]? = some e → i ≠ j → c.A ≠ e.A ∧ ∀ g, c.v.ownBlock = some g → e.v.ownBlock ≠ some g
  ok : ∀ (i : Nat) c, l[i]? = some c → ZsOk c.z
  size : ∀ (i : Nat) c, l[i]? = some c → c.z.size = d.size
  le : lo ≤ D
section
variable {S : Nat → Prop} {lo D : Nat} {w w' : World} {vz : Value} {d d' : DvR} {l l' : List ZcR}
theorem own_unlike2 {base base' : Nat} {e e' : TypeId} {s s' n n' : Nat} {v v' : Value} {xs xs' : List Value} (h : w.ownsRow base e s v n xs) (h' : w.ownsRow base' e' s' v' n' xs') (hne : e ≠ e') {g : Nat} (hg : v.ownBlock = some g) : v'.ownBlock ≠ some g := by
  rcases h'.2 with ⟨rfl, _⟩ | ⟨g', cap, cur, rfl, _, hh, _⟩
  · simp [Value.ownBlock]
  · intro e1
    have e2 : g' = g := by simpa [Value.ownBlock] using e1
    exact own_unlike h (g := g') (t := e') (cs := cur) hh hne (by rw [hg, e2])
theorem own_lov {base : Nat} {e : TypeId} {s n : Nat} {v : Value} {xs : List Value} (h : w.ownsRow base e s v n xs) {g : Nat} (hg : v.ownBlock = some g) : base ≤ g := by
  rcases h.2 with ⟨rfl, _⟩ | ⟨g', c, cur, rfl, h1, _⟩
  · simp [Value.ownBlock] at hg
  · obtain rfl : g' = g := by simpa [Value.ownBlock] using hg
    exact h1
theorem DvAt.kept (h : DvAt lo w D vz d l) (k : Kept S w w') (hn : ∀ i, DvF D vz l i → ¬ S i) : DvAt lo w' D vz d l :=
  ⟨h.blk.kept k (hn D (.inl rfl)), own_kept h.own k (fun g hg => hn g (.inr (.inl hg))), fun i c hc => (h.each i c hc).kept k (fun j hj => hn j (.inr (.inr ⟨c, List.mem_of_getElem? hc, hj⟩))), h.apart, h.ok, h.size, h.le⟩
theorem DvAt.below (h : DvAt lo w D vz d l) (hb : Below w.heap.size w w') : DvAt lo w' D vz d l := h.kept (Kept.of_below (S := fun _ => False) hb) (fun _ _ h => h)
theorem DvAt.lt (h : DvAt lo w D vz d l) {i : Nat} (hi : DvF D vz l i) : i < w.heap.size := by
  rcases hi with rfl | hi | ⟨c, hc, hi⟩
  · exact h.blk.lt
  · exact own_lt h.own hi
  · obtain ⟨j, hj⟩ := List.getElem?_of_mem hc
    exact (h.each j c hj).lt hi
theorem DvAt.lov (h : DvAt lo w D vz d l) {i : Nat} (hi : DvF D vz l i) : lo ≤ i := by
  rcases hi with rfl | hi | ⟨c, hc, hi⟩
  · exact h.le
  · exact own_lov h.own hi
  · obtain ⟨j, hj⟩ := List.getElem?_of_mem hc
    exact (h.each j c hj).lov hi
theorem DvAt.notblk (h : DvAt lo w D vz d l) {g : Nat} {t : TypeId} {cs : Array Value} (hg : Blk w g t cs) (h1 : t ≠ 96) (h2 : t ≠ 93) (h3 : t ≠ 114) (h4 : t ≠ 34) : ¬ DvF D vz l g := by
  rintro (rfl | hi | ⟨c, hc, rfl | hi⟩)
  · exact Blk.unlike hg h.blk h1 rfl
  · exact own_unlike h.own hg (Ne.symm h2) hi.symm
  · obtain ⟨j, hj⟩ := List.getElem?_of_mem hc
    exact Blk.unlike hg (h.each j c hj).blk h3 rfl
  · obtain ⟨j, hj⟩ := List.getElem?_of_mem hc
    exact own_unlike (h.each j c hj).own hg (Ne.symm h4) hi.symm
theorem DvAt.notrow (h : DvAt lo w D vz d l) {base : Nat} {e : TypeId} {s n : Nat} {v : Value} {xs : List Value} (hv : w.ownsRow base e s v n xs) (h1 : e ≠ 96) (h2 : e ≠ 93) (h3 : e ≠ 114) (h4 : e ≠ 34) {g : Nat} (hg : v.ownBlock = some g) : ¬ DvF D vz l g := by
  rintro (rfl | hi | ⟨c, hc, rfl | hi⟩)
  · exact own_unlike hv h.blk h1 hg.symm
  · exact own_unlike2 hv h.own h2 hg hi
  · obtain ⟨j, hj⟩ := List.getElem?_of_mem hc
    exact own_unlike hv (h.each j c hj).blk h3 hg.symm
  · obtain ⟨j, hj⟩ := List.getElem?_of_mem hc
    exact own_unlike2 hv (h.each j c hj).own h4 hg hi
theorem DvAt.row7 (h : DvAt lo w D vz d l) {base : Nat} {v7 : Value} {l7 : List (R7z × Value)} (hr : Row7 base w v7 l7) (k : Kept (DvF D vz l) w w') : Row7 base w' v7 l7 :=
  ⟨own_kept hr.own k (fun g hg => h.notrow hr.own (by decide) (by decide) (by decide) (by decide) hg), fun p hp => own_kept (hr.each p hp) k (fun g hg => h.notrow (hr.each p hp) (by decide) (by decide) (by decide) (by decide) hg)⟩
def DvTo (lo : Nat) (w : World) (D : Nat) (vz : Value) (l : List ZcR) (d' : DvR) (zs' : List ZsR) (w' : World) : Prop :=
  ∃ l', DvAt lo w' D vz d' l' ∧ l'.map ZcR.z = zs' ∧ Kept (DvF D vz l) w w' ∧ ∀ i, DvF D vz l' i → DvF D vz l i ∨ w.heap.size ≤ i
theorem DvTo.same (h : DvAt lo w D vz d l) (hb : Below w.heap.size w w') : DvTo lo w D vz l d (l.map ZcR.z) w' := ⟨l, h.below hb, rfl, Kept.of_below hb, fun _ h => .inl h⟩
theorem DvTo.below {w1 : World} {zs' : List ZsR} (h : DvTo lo w D vz l d' zs' w1) (hb : Below w1.heap.size w1 w') : DvTo lo w D vz l d' zs' w' := by
  obtain ⟨l', h1, h2, h3, h4⟩ := h
  exact ⟨l', h1.below hb, h2, kept_next h3 hb, h4⟩
theorem DvTo.after {w1 : World} {zs' : List ZsR} (hb : Below w.heap.size w w1) (h : DvTo lo w1 D vz l d' zs' w') : DvTo lo w D vz l d' zs' w' := by
  obtain ⟨l', h1, h2, h3, h4⟩ := h
  refine ⟨l', h1, h2, (Kept.of_below (S := fun _ => False) hb).andThen h3 (fun _ _ h => h.elim) (fun _ _ h => h), fun i hi => ?_⟩
  rcases h4 i hi with h | h
  · exact .inl h
  · exact .inr (Nat.le_trans hb.size h)
theorem DvTo.step {w1 w2 : World} {l1 : List ZcR} {d2 : DvR} {zs2 : List ZsR} (h3 : Kept (DvF D vz l) w w1) (h4 : ∀ i, DvF D vz l1 i → DvF D vz l i ∨ w.heap.size ≤ i) (k : DvTo lo w1 D vz l1 d2 zs2 w2) : DvTo lo w D vz l d2 zs2 w2 := by
  obtain ⟨l2, k1, k2, k3, k4⟩ := k
  refine ⟨l2, k1, k2, h3.andThen k3 (fun _ _ h => h) (fun i hi hz => ?_), fun i hi => ?_⟩
  · rcases h4 i hz with h | h
    · exact h
    · omega
  · rcases k4 i hi with h | h
    · exact h4 i h
    · exact .inr (Nat.le_trans h3.size h)
theorem DvAt.zone (h : DvAt lo w D vz d l) {i : Nat} {c : ZcR} (hc : l[i]? = some c) {z' : ZsR} (hT : ZsTo 114 34 lo w c.A c.v z' w') (hok : ZsOk z') (hsz : z'.size = d.size) : DvTo lo w D vz l d ((l.map ZcR.z).set i z') w' := by
  obtain ⟨v', k1, k2, k3⟩ := hT
  have hi : i < l.length := (List.getElem?_eq_some_iff.1 hc).1
  have hz := h.each i c hc
  have hS : ∀ j, ZF c.A c.v j → DvF D vz l j := fun j hj => .inr (.inr ⟨c, List.mem_of_getElem? hc, hj⟩)
  have hD : ¬ ZF c.A c.v D := by
    rintro (e | e)
    · exact Blk.unlike h.blk hz.blk (by decide) e
    · exact own_unlike hz.own h.blk (by decide) e.symm
  have hV : ∀ g, vz.ownBlock = some g → ¬ ZF c.A c.v g := fun g hg => by
    rintro (e | e)
    · exact own_unlike h.own hz.blk (by decide) (by rw [hg, e])
    · exact own_unlike2 h.own hz.own (by decide) hg e
  have hE : ∀ (j : Nat) e, l[j]? = some e → i ≠ j → ∀ g, ZF e.A e.v g → ¬ ZF c.A c.v g := fun j e he hij g hg => by
    obtain ⟨a1, a2⟩ := h.apart i j c e hc he hij
    have ze := h.each j e he
    rintro (e1 | e1) <;> rcases hg with e2 | e2
    · exact a1 (e1.symm.trans e2)
    · exact own_unlike ze.own hz.blk (by decide) (by rw [e2, e1])
    · exact own_unlike hz.own ze.blk (by decide) (by rw [e1, e2])
    · exact a2 g e1 e2
  refine ⟨l.set i ⟨c.A, v', z'⟩, ⟨h.blk.kept k2 hD, ?_, fun j e he => ?_, fun j m e f he hf hjm => ?_, fun j e he => ?_, fun j e he => ?_, h.le⟩, by rw [List.map_set], k2.mono (fun j _ hj => hS j hj), fun j hj => ?_⟩
  · have hm : (l.set i ⟨c.A, v', z'⟩).map zptr = l.map zptr := by
      rw [List.map_set]
      apply List.ext_getElem?
      intro j
      by_cases e : i = j
      · subst e
        rw [List.getElem?_set_self (by simpa using hi), List.getElem?_map, hc]; rfl
      · rw [List.getElem?_set_ne e]
    rw [List.length_set, hm]
    exact own_kept h.own k2 hV
  · rw [List.getElem?_set] at he
    by_cases e1 : i = j
    · rw [if_pos e1, if_pos hi] at he
      injection he with he
      subst he
      exact k1
    · rw [if_neg e1] at he
      exact (h.each j e he).kept k2 (hE j e he e1)
  · have key : ∀ (m : Nat) f, l[m]? = some f → i ≠ m → c.A ≠ f.A ∧ ∀ g, v'.ownBlock = some g → f.v.ownBlock ≠ some g := fun m f hf hm => by
      obtain ⟨a1, a2⟩ := h.apart i m c f hc hf hm
      refine ⟨a1, fun g hg e2 => ?_⟩
      rcases k3 g hg with h5 | h5
      · exact a2 g h5 e2
      · have := (h.each m f hf).lt (.inr e2); omega
    rw [List.getElem?_set] at he hf
    by_cases e1 : i = j
    · rw [if_pos e1, if_pos hi] at he
      injection he with he
      subst he
      rw [if_neg (fun e2 => hjm (e1.symm.trans e2))] at hf
      exact key m f hf (fun e2 => hjm (e1.symm.trans e2))
    · rw [if_neg e1] at he
      by_cases e2 : i = m
      · rw [if_pos e2, if_pos hi] at hf
        injection hf with hf
        subst hf
        obtain ⟨b1, b2⟩ := key j e he e1
        exact ⟨Ne.symm b1, fun g hg e3 => b2 g e3 hg⟩
      · rw [if_neg e2] at hf
        exact h.apart j m e f he hf hjm
  · rw [List.getElem?_set] at he
    by_cases e1 : i = j
    · rw [if_pos e1, if_pos hi] at he
      injection he with he
      subst he
      exact hok
    · rw [if_neg e1] at he
      exact h.ok j e he
  · rw [List.getElem?_set] at he
    by_cases e1 : i = j
    · rw [if_pos e1, if_pos hi] at he
      injection he with he
      subst he
      exact hsz
    · rw [if_neg e1] at he
      exact h.size j e he
  · rcases hj with hj | hj | ⟨e, he, hj⟩
    · exact .inl (.inl hj)
    · exact .inl (.inr (.inl hj))
    · rcases List.mem_or_eq_of_mem_set he with he | rfl
      · exact .inl (.inr (.inr ⟨e, he, hj⟩))
      · rcases hj with hj | hj
        · exact .inl (hS j (.inl hj))
        · rcases k3 j hj with h5 | h5
          · exact .inl (hS j (.inr h5))
          · exact .inr h5
theorem DvAt.cell (h : DvAt lo w D vz d l) (i : Nat) (u : Value) (hs : (dvA d vz).setIfInBounds i u = dvA d' vz) (hz : d'.size = d.size) : DvTo lo w D vz l d' (l.map ZcR.z) (w.setCell ⟨D, i, none⟩ u) := by
  have k : Kept (· = D) w (w.setCell ⟨D, i, none⟩ u) := (Kept.refl (· = D) w).setCell (p := ⟨D, i, none⟩) rfl u
  refine ⟨l, ⟨by have h2 := h.blk.set i u; rwa [hs] at h2, own_kept h.own k (fun g hg e => ?_), fun j c hc => (h.each j c hc).kept k (fun m hm e => ?_), h.apart, h.ok, fun j c hc => (h.size j c hc).trans hz.symm, h.le⟩, rfl, k.mono (fun j _ hj => .inl hj), fun _ h => .inl h⟩
  · subst e
    exact own_unlike h.own h.blk (by decide) hg.symm
  · subst e
    rcases hm with e | e
    · exact Blk.unlike h.blk (h.each j c hc).blk (by decide) e
    · exact own_unlike (h.each j c hc).own h.blk (by decide) e.symm
theorem DvTo.blk {zs' : List ZsR} (h : DvTo lo w D vz l d' zs' w') (hd : DvAt lo w D vz d l) {g : Nat} {t : TypeId} {cs : Array Value} (hg : Blk w g t cs) (h1 : t ≠ 96) (h2 : t ≠ 93) (h3 : t ≠ 114) (h4 : t ≠ 34) : Blk w' g t cs := by
  obtain ⟨l', _, _, k, _⟩ := h
  exact hg.kept k (hd.notblk hg h1 h2 h3 h4)
theorem DvTo.row {zs' : List ZsR} (h : DvTo lo w D vz l d' zs' w') (hd : DvAt lo w D vz d l) {base : Nat} {v7 : Value} {l7 : List (R7z × Value)} (hr : Row7 base w v7 l7) : Row7 base w' v7 l7 := by
  obtain ⟨l', _, _, k, _⟩ := h
  exact hd.row7 hr k
theorem DvTo.bel {zs' : List ZsR} {w0 : World} (h : DvTo lo w D vz l d' zs' w') (hd : DvAt lo w D vz d l) (hb : Below lo w0 w) (hlo : lo ≤ w0.heap.size) : Below lo w0 w' := by
  obtain ⟨l', _, _, k, _⟩ := h
  exact bkept hb hlo k (fun i hi e => by have := hd.lov e; omega)
theorem DvAt.ptr (h : DvAt lo w D vz d l) {i : Nat} {c : ZcR} (hc : l[i]? = some c) : ∃ g cap, vz = .slice (some ⟨g, 0, none⟩) l.length cap ∧ l.length ≤ cap ∧ cap ≤ maxLen ∧ w.cell? ⟨g, i, none⟩ = some (.pointer (some ⟨c.A, 0, none⟩)) := by
  have hi : i < l.length := (List.getElem?_eq_some_iff.1 hc).1
  obtain ⟨a, cap, rfl⟩ := own_slice h.own
  obtain ⟨_, c1, c2⟩ := own_cap h.own
  obtain ⟨g, rfl, _, _, hg, _⟩ := own_at h.own i hi
  refine ⟨g, cap, rfl, c1, c2, hg.trans ?_⟩
  rw [List.getElem?_map, hc]
  rfl
end
end Go.Proofs.Ytajkajgnjcnolaa

