import Derived.Test.YtajkajgnjcnolaaMp35
import Derived.Test.YtajkajgnjcnolaaMp27
namespace Go.Proofs.Ytajkajgnjcnolaa
open Go.RowKit Go.Shelf
set_option linter.unusedVariables false
set_option linter.unnecessarySimpa false
set_option linter.unusedSimpArgs false
structure WrAt (lo b G : Nat) (vs : List Value) (Wr : List (List (List Nat))) (F : Nat → Prop) (Y : Nat) (W : World) : Prop where
  box : Blk W b 44 #[.slice (some ⟨G, 0, none⟩) Wr.length Wr.length]
  arr : Blk W G 48 vs.toArray
  len : vs.length = Wr.length
  row : ∀ (i : Nat) v ws, vs[i]? = some v → Wr[i]? = some ws → W.ownsRow lo 34 64 v ws.length (flat ws)
  far : ∀ (i : Nat) v g, vs[i]? = some v → v.ownBlock = some g → ¬ F g ∧ g ≠ Y
  nF : ¬ F b ∧ ¬ F G
  nY : b ≠ Y ∧ G ≠ Y
  lo : lo < b ∧ lo < G
section
variable {lo b G Y : Nat} {vs : List Value} {Wr : List (List (List Nat))} {F F' : Nat → Prop} {w W W' : World}
theorem WrAt.to (h : WrAt lo b G vs Wr F Y W) (hn : ∀ g t cs, (t = 44 ∨ t = 48 ∨ t = 34) → Blk W g t cs → ¬ F g → g ≠ Y → Blk W' g t cs ∧ ¬ F' g) : WrAt lo b G vs Wr F' Y W' := by
  obtain ⟨b1, b2⟩ := hn b _ _ (.inl rfl) h.box h.nF.1 h.nY.1
  obtain ⟨g1, g2⟩ := hn G _ _ (.inr (.inl rfl)) h.arr h.nF.2 h.nY.2
  refine ⟨b1, g1, h.len, fun i v ws hv hw => ?_, fun i v g hv hg => ?_, ⟨b2, g2⟩, h.nY, h.lo⟩
  · obtain ⟨h1, h2⟩ := h.row i v ws hv hw
    refine ⟨h1, ?_⟩
    rcases h2 with h2 | ⟨g, cap, cur, rfl, hg, hh, r⟩
    · exact .inl h2
    · obtain ⟨f1, f2⟩ := h.far i _ g hv rfl
      exact .inr ⟨g, cap, cur, rfl, hg, (hn g _ cur (.inr (.inr rfl)) hh f1 f2).1, r⟩
  · have hi : i < Wr.length := by rw [← h.len]; exact (List.getElem?_eq_some_iff.1 hv).1
    obtain ⟨h1, h2⟩ := h.row i v _ hv (List.getElem?_eq_getElem hi)
    obtain ⟨f1, f2⟩ := h.far i _ g hv hg
    rcases h2 with ⟨rfl, _⟩ | ⟨g', cap, cur, rfl, _, hh, r⟩
    · cases hg
    · injection hg with hg
      subst hg
      exact ⟨(hn _ _ cur (.inr (.inr rfl)) hh f1 f2).2, f2⟩
theorem WrAt.below (h : WrAt lo b G vs Wr F Y W) (hb : Below W.heap.size W W') : WrAt lo b G vs Wr F Y W' := h.to (fun g t cs _ hB hF _ => ⟨hB.below hb hB.lt, hF⟩)
theorem WrAt.keptB {g : Nat} {U : TypeId} {cs : Array Value} (h : WrAt lo b G vs Wr F Y W) (hg : Blk W g U cs) (h0 : U ≠ 44) (h1 : U ≠ 48) (h2 : U ≠ 34) (hk : Kept (· = g) W W') : WrAt lo b G vs Wr F Y W' :=
  h.to (fun g' t cs' ht hB hF _ => ⟨hB.kept hk (fun e => Blk.unlike hg hB (fun eU => by subst eU; rcases ht with e | e | e; exact h0 e; exact h1 e; exact h2 e) e.symm), hF⟩)
theorem WrAt.ownF {β : Type} {B : Nat} : OwnFrom (β := β) B (fun _ W => WrAt lo b G vs Wr F Y W) := fun s V V' row h hg hr =>
  h.to (fun g t cs _ hB hF _ => ⟨Own.from (blk_own (β := β) _ _ (fun _ => _)) B s V V' row hB hg hr, hF⟩)
theorem WrAt.get (h : WrAt lo b G vs Wr F Y W) {i : Nat} {ws : List (List Nat)} (hw : Wr[i]? = some ws) : ∃ a c, vs[i]? = some (.slice a ws.length c) ∧ W.ownsRow lo 34 64 (.slice a ws.length c) ws.length (flat ws) ∧ W.cell? ⟨G, i, none⟩ = some (.slice a ws.length c) := by
  have hi : i < vs.length := by rw [h.len]; exact (List.getElem?_eq_some_iff.1 hw).1
  have hv := List.getElem?_eq_getElem hi
  have hr := h.row i _ _ hv hw
  obtain ⟨a, c, e⟩ := own_slice hr
  rw [e] at hv hr
  exact ⟨a, c, hv, hr, (h.arr.cell i).trans (by simpa using hv)⟩
theorem WrAt.setRow {W3 : World} (h : WrAt lo b G vs Wr F Y W) (hB : Below W.heap.size W W3) (i : Nat) {v3 : Value} {ws3 : List (List Nat)} (ho : W3.ownsRow lo 34 64 v3 ws3.length (flat ws3)) (hf : ∀ g, v3.ownBlock = some g → ¬ F g ∧ g ≠ Y) :
    WrAt lo b G (vs.set i v3) (Wr.set i ws3) F Y (W3.setCell ⟨G, i, none⟩ v3) ∧ Kept (· = G) W (W3.setCell ⟨G, i, none⟩ v3) := by
  have h3 := h.below hB
  have hbG : b ≠ G := Blk.unlike h3.box h3.arr (by decide)
  have hgs : ∀ {g E n v xs}, W3.ownsRow lo E 64 v n xs → E ≠ 48 → v.ownBlock = some g → g ≠ G := fun {g E n v xs} ho hE hg e => by subst e; exact own_unlike ho h3.arr hE hg.symm
  refine ⟨⟨?_, ?_, by rw [List.length_set, List.length_set]; exact h.len, fun j v ws hv hw => ?_, fun j v g hv hg => ?_, h.nF, h.nY, h.lo⟩, (Kept.of_below (S := (· = G)) hB).setCell (p := ⟨G, i, none⟩) rfl v3⟩
  · rw [List.length_set]; exact h3.box.far hbG _
  · have := h3.arr.set i v3
    simpa using this
  · by_cases e : i = j
    · subst e
      have hv' := List.getElem?_eq_some_iff.1 hv
      have hi : i < vs.length := by have := hv'.1; rwa [List.length_set] at this
      rw [List.getElem?_set_self hi] at hv
      rw [List.getElem?_set_self (by rw [← h.len]; exact hi)] at hw
      injection hv with hv
      injection hw with hw
      subst hv hw
      exact ownK_same ho (fun g hg => Below.heap_setCell _ _ _ _ (hgs ho (by decide) hg))
    · rw [List.getElem?_set_ne e] at hv hw
      have hr := h3.row j v ws hv hw
      exact ownK_same hr (fun g hg => Below.heap_setCell _ _ _ _ (hgs hr (by decide) hg))
  · by_cases e : i = j
    · subst e
      have hi : i < vs.length := by have := (List.getElem?_eq_some_iff.1 hv).1; rwa [List.length_set] at this
      rw [List.getElem?_set_self hi] at hv
      injection hv with hv
      subst hv
      exact hf g hg
    · rw [List.getElem?_set_ne e] at hv
      exact h.far j v g hv hg
end
theorem WrAt.start {lo b Y : Nat} {F : Nat → Prop} {W : World} (n : Nat) {G : Nat} (hb : Blk W b 44 #[.slice (some ⟨G, 0, none⟩) n n]) (hg : Blk W G 48 (List.replicate n (.slice none 0 0)).toArray) (h1 : ¬ F b ∧ ¬ F G) (h2 : b ≠ Y ∧ G ≠ Y) (h3 : lo < b ∧ lo < G) :
    WrAt lo b G (List.replicate n (.slice none 0 0)) (List.replicate n []) F Y W :=
  ⟨by rw [List.length_replicate]; exact hb, hg, by simp, fun i v ws hv hw => by
    obtain rfl := List.eq_of_mem_replicate (List.mem_of_getElem? hv)
    obtain rfl := List.eq_of_mem_replicate (List.mem_of_getElem? hw)
    exact ownK_nil _ _ _ _, (fun i v g hv hg => by
    obtain rfl := List.eq_of_mem_replicate (List.mem_of_getElem? hv)
    cases hg), h1, h2, h3⟩
set_option maxRecDepth 100000 in
theorem Try.infoRow : (Try.prog.info? 48).map (fun i => (i.zero, i.size, i.bytes)) = some (some (.slice none 0 0), 1, 24) := by kernel_rfl
set_option maxRecDepth 100000 in
theorem run_makeW (w : World) (n : Nat) (h : n ≤ 1000000) : (Instr.makeSlice 44 (.int .i64 n) (.int .i64 n)).run Try.prog w = .ok (.slice (some ⟨w.heap.size, 0, none⟩) n n) (w.alloc (Obj.cells (List.replicate n (.slice none 0 0)).toArray 48)) := by
  obtain ⟨i0, hi, hz0, hz1, hz2⟩ := info_parts Try.infoRow
  have hb : (i0.bytes : Int) * n ≤ 281474976710656 := by rw [hz2]; omega
  have hr := run_make (P := Try.prog) w 44 48 i0 (.slice none 0 0) Try.underlying44 hi hz0 .i64 .i64 n n (by omega) (Int.le_refl _) hb (by omega)
  rw [hr, hz1, Int.toNat_natCast, Nat.mul_one]
  have e : madeCells #[Value.slice none 0 0] n = (List.replicate n (.slice none 0 0)).toArray := by
    apply Array.ext'
    rw [toList_madeCells_one]
  rw [← e]
  rfl
theorem exec_indexW {w : World} {o : Oper} {a : Act} (x ix : Operand) (ho : o.op = .indexAddr 44 x ix) (g n c i : Nat) (hx : a.eval x = .slice (some ⟨g, 0, none⟩) n c) (hix : a.eval ix = .int .i64 (i : Nat)) (hi : i < n) : (execOp a.eval o).run Try.prog w = .ok (.value (.pointer (some ⟨g, i, none⟩))) w := by
  obtain ⟨i0, hi0, hz0, hz1, hz2⟩ := info_parts Try.infoRow
  have hb : (0 : Int) ≤ (i : Nat) ∧ ((i : Nat) : Int) < (n : Nat) := by omega
  have hadd : (⟨g, 0, none⟩ : Addr).add (i * 1) = ⟨g, i, none⟩ := by rw [Nat.mul_one]; have := Addr.add_mid g 0 i; rwa [Nat.zero_add] at this
  unfold execOp
  simp only [ho, hx, hix]
  simp [Instr.indexAt, asIntOf, run_underlying Try.underlying44, sizeOf, typeInfo, hi0, hb, hz1, hi]
  simpa using hadd
theorem elFK : ElK Try.prog 48 34 64 := by
  obtain ⟨i0, hi, hz0, hz1, hz2⟩ := info_parts Try.infoSecF
  exact ⟨Try.underlying48, ⟨i0, _, hi, hz0, hz1, by rw [hz2]; decide, by show (bA (zeros 64)).size = 64; rw [bA_size, zeros_length]⟩, by decide⟩
theorem ownK_cut {w : World} {lo sz : Nat} {E : TypeId} {a : Option Addr} {n cap : Nat} {xs : List Value} (h : w.ownsRow lo E sz (.slice a n cap) n xs) (k : Nat) (hk : k ≤ n) : w.ownsRow lo E sz (.slice a k cap) k (xs.take (k * sz)) := by
  have hm : k * sz ≤ n * sz := Nat.mul_le_mul_right _ hk
  have hl := h.1
  refine ⟨by rw [List.length_take]; omega, ?_⟩
  rcases h.2 with ⟨h1, h2⟩ | ⟨g, c, cur, h1, h2, h3, h4, h5, h6, h7⟩
  · obtain ⟨rfl, _, rfl⟩ : a = none ∧ n = 0 ∧ cap = 0 := by simpa using h1
    obtain rfl : k = 0 := by omega
    exact .inl ⟨rfl, rfl⟩
  · obtain ⟨rfl, rfl⟩ : a = some ⟨g, 0, none⟩ ∧ cap = c := by simpa using h1
    exact .inr ⟨g, cap, cur, rfl, h2, h3, by omega, h5, h6, by rw [← h7, List.take_take, Nat.min_eq_left hm]⟩
theorem src_sec {W : World} {g : Nat} {E : TypeId} {s : List Nat} (h : Blk W g E (bA s)) : ∀ ad, some (⟨g, 0, none⟩ : Addr) = some ad → ∀ j u, (bvals s)[j]? = some u → W.cell? (ad.add j) = some u := by
  intro ad e j u hu
  cases e
  have hadd : (⟨g, 0, none⟩ : Addr).add j = ⟨g, j, none⟩ := by have := Addr.add_mid g 0 j; rwa [Nat.zero_add] at this
  rw [hadd, h.cell j]
  simpa [bA] using hu
theorem nextM2 {P : Program} {md : Region.Mode} {ops : Array Oper} {Q : Exit → Act → World → Prop} {S : World → Prop} {L i k : Nat} {o o' : Oper} {fuel : Nat} {listed : Array Bool} {a : Act} {w : World} (ho : ops[i]? = some o) (ho' : ops[k]? = some o')
    (hr : Region.ready md ops listed = [i, k]) (hw : Region.wanted o (yielded ops a.tmps) = true) (hw' : Region.wanted o' (yielded ops a.tmps) = true)
    (h : ∀ K' : Act → World → Prop, Shut (∀ a w, ((i ≠ L ∧ listed.getD L false = false) → S w) ∧ wpAnyM P md ops Q S L fuel (listed.setIfInBounds i true) a w → K' a w) → Oper.wp P o a w K' Q)
    (h' : ∀ K' : Act → World → Prop, Shut (∀ a w, ((k ≠ L ∧ listed.getD L false = false) → S w) ∧ wpAnyM P md ops Q S L fuel (listed.setIfInBounds k true) a w → K' a w) → Oper.wp P o' a w K' Q) : wpAnyM P md ops Q S L (fuel + 1) listed a w :=
  ⟨fun h0 => absurd (hr ▸ h0) (by simp), fun j hj => by
    have hj' : j = i ∨ j = k := by rw [hr] at hj; simpa using hj
    rcases hj' with rfl | rfl
    · exact wpOp_of ho hw h
    · exact wpOp_of ho' hw' h'⟩
theorem set_back {α : Type} {k : Nat} {z : α} {zs : List α} (hz : zs[k]? = some z) : zs.set k z = zs := by
  obtain ⟨hk, rfl⟩ := List.getElem?_eq_some_iff.1 hz
  exact List.set_getElem_self hk
theorem zx_self (p : List Nat) : zx p p 64 = zeros 64 := by
  apply List.ext_getElem
  · rw [zx_length, zeros_length]
  · intro i h1 h2
    simp only [zx, List.getElem_map, List.getElem_range, Nat.xor_self]
    exact (List.eq_of_mem_replicate (show (zeros 64)[i] ∈ List.replicate 64 0 from List.getElem_mem h2)).symm
theorem zx_back {u p : List Nat} (h : u.length = 64) : zx (zx u p 64) p 64 = u := by rw [zx_assoc, zx_self, zx_zeros h]
theorem xor_as {s p V : List Nat} {w : World} (hV : V = zx s p 64) (h1 : s.length = 64) (h2 : p.length = 64) (h3 : ∀ c ∈ s, c < 256) (h4 : ∀ c ∈ p, c < 256) : Calls Try.prog 16 #[.agg (bA s), .agg (bA p)] w fun e w' => e = .returned (.agg (bA V)) ∧ Below w.heap.size w w' := by
  rw [hV]; exact xor_any s p w h1 h2 h3 h4
def upd1 (s : List Nat) (L : Nat) (ws : List (List Nat)) : List (List Nat) := (if ws.length < L then ws ++ [s] else ws).take L
def updP (s : List Nat) (zs : List ZsR) (Wr : List (List (List Nat))) (i : Nat) : List (List (List Nat)) := Wr.mapIdx (fun j ws => if j < i then upd1 s (zs.getD j (zs0 1)).ss.length ws else ws)
theorem updP_zero (s : List Nat) (zs : List ZsR) (Wr : List (List (List Nat))) : updP s zs Wr 0 = Wr := by
  apply List.ext_getElem?
  intro i
  unfold updP
  rw [List.getElem?_mapIdx]
  cases Wr[i]? <;> rfl
theorem updP_all (s : List Nat) (zs : List ZsR) (Wr : List (List (List Nat))) {n : Nat} (hn : Wr.length = n) : updP s zs Wr n = updW s zs Wr := by
  apply List.ext_getElem?
  intro i
  unfold updP updW
  rw [List.getElem?_mapIdx, List.getElem?_mapIdx]
  cases hw : Wr[i]? with
  | none => rfl
  | some ws =>
    have hi := (List.getElem?_eq_some_iff.1 hw).1
    show some (if i < n then _ else _) = _
    rw [if_pos (by omega)]
    rfl
theorem updP_len (s : List Nat) (zs : List ZsR) (Wr : List (List (List Nat))) (i : Nat) : (updP s zs Wr i).length = Wr.length := by unfold updP; rw [List.length_mapIdx]
theorem updP_at {s : List Nat} {zs : List ZsR} {Wr : List (List (List Nat))} {i : Nat} {ws : List (List Nat)} (h : Wr[i]? = some ws) : (updP s zs Wr i)[i]? = some ws := by
  unfold updP
  rw [List.getElem?_mapIdx, h]
  show some (if i < i then _ else _) = _
  rw [if_neg (Nat.lt_irrefl i)]
theorem updP_succ {s : List Nat} {zs : List ZsR} {Wr : List (List (List Nat))} {i : Nat} {z : ZsR} {ws : List (List Nat)} (h : Wr[i]? = some ws) (hz : zs[i]? = some z) : (updP s zs Wr i).set i (upd1 s z.ss.length ws) = updP s zs Wr (i + 1) := by
  apply List.ext_getElem?
  intro j
  by_cases e : i = j
  · subst e
    rw [List.getElem?_set_self (by rw [updP_len]; exact (List.getElem?_eq_some_iff.1 h).1)]
    unfold updP
    rw [List.getElem?_mapIdx, h]
    show _ = some (if i < i + 1 then _ else _)
    rw [if_pos (Nat.lt_succ_self i), List.getD_eq_getElem?_getD, hz]
    rfl
  · rw [List.getElem?_set_ne e]
    unfold updP
    rw [List.getElem?_mapIdx, List.getElem?_mapIdx]
    cases Wr[j]? with
    | none => rfl
    | some v =>
      show some (if j < i then _ else _) = some (if j < i + 1 then _ else _)
      by_cases hj : j < i
      · rw [if_pos hj, if_pos (by omega)]
      · rw [if_neg hj, if_neg (by omega)]
structure SpR (z : ZsR) (ws0 ws : List (List Nat)) (s : List Nat) (M : Mk) (i : Nat) : Prop where
  at_ : SpZ i z ws M
  eq : ws = upd1 s z.ss.length ws0
  le : ws0.length < z.ss.length → z.ss.length = ws0.length + 1
  w64 : ∀ x ∈ ws0, x.length = 64
theorem SpI.round {zs : List ZsR} {Wr : List (List (List Nat))} {M : Mk} {s : List Nat} (h : SpI zs (updW s zs Wr) M) (hs : s.length = 64) {i : Nat} {z : ZsR} {ws : List (List Nat)} (hz : zs[i]? = some z) (hw : Wr[i]? = some ws) (hw64 : ∀ x ∈ ws, x.length = 64) : SpR z ws (upd1 s z.ss.length ws) s M i := by
  have hg : zs.getD i (zs0 1) = z := by rw [List.getD_eq_getElem?_getD, hz]; rfl
  have hu : (updW s zs Wr)[i]? = some (upd1 s z.ss.length ws) := by
    unfold updW
    rw [List.getElem?_mapIdx, hw]
    show some _ = some _
    rw [hg]
    rfl
  have hZ := h.each i z _ hz hu
  refine ⟨hZ, rfl, fun hlt => ?_, hw64⟩
  have := hZ.len
  unfold upd1 at this
  rw [if_pos hlt, List.length_take, List.length_append] at this
  simp at this
  omega
end Go.Proofs.Ytajkajgnjcnolaa

namespace Go.Proofs.Ytajkajgnjcnolaa
open Go.RowKit Go.Shelf
set_option linter.unusedVariables false
set_option linter.unnecessarySimpa false
set_option linter.unusedSimpArgs false
def kG (ss : List (List Nat)) (k : Nat) : Nat := min k (ss.length - 1)
theorem kG_lt {ss : List (List Nat)} (k : Nat) (h : 0 < ss.length) : kG ss k < ss.length := by unfold kG; omega
def encG (ss : List (List Nat)) (k : Nat) : Array Value := #[.int .i64 (kG ss k : Int), .agg (bA (nrm (ss.getD (kG ss k) [])))]
theorem encG_at {ss : List (List Nat)} {k : Nat} (h : k < ss.length) : encG ss k = #[.int .i64 (k : Int), .agg (bA (nrm (ss.getD k [])))] := by
  unfold encG kG
  rw [Nat.min_eq_left (by omega)]
theorem range_snoc (k : Nat) : List.range (k + 1) = List.range k ++ [k] := List.range_succ
theorem range_prefix (k n : Nat) (h : k ≤ n) : List.range k <+: List.range n := by
  obtain ⟨d, rfl⟩ := Nat.le.dest h
  rw [List.range_add]
  exact List.prefix_append _ _
set_option maxRecDepth 100000 in
set_option maxHeartbeats 2000000 in
theorem allG_some {lo A Bp : Nat} {v : Value} {z : ZsR} (n : Nat) (hn : 1 ≤ n) (l : Nat) (J Jx : List Nat → World → Prop) (W : World) (hJ : AbidesFrom W.heap.size J) (hz : ZsAt 114 34 lo W A v z) (hok : ZsOk z) (h00 : 0 < z.ss.length)
    (hY : ∀ pre x W1, J pre W1 → pre.length < z.ss.length → YieldAt Fence.wide (n - 1) Try.prog l (encG z.ss x) W1 fun e W' => (e = .returned (.bool true) ∧ J (pre ++ [x]) W' ∧ KpRow v W1 W') ∨ (e = .returned (.bool false) ∧ Jx (pre ++ [x]) W'))
    (hB : W.cell? ⟨Bp, 0, none⟩ = some (.pointer (some ⟨A, 0, none⟩))) (h0 : J [] W) :
    CallsIn Fence.wide n Try.prog 68 #[.func (.yield l) #[] #[], .pointer (some ⟨Bp, 0, none⟩)] W fun e W' => (∃ v, e = .returned v) ∧ ((∃ ys, ys = List.range z.ss.length ∧ J ys W') ∨ (∃ pre, pre <+: List.range z.ss.length ∧ Jx pre W')) := by
  obtain ⟨a, cap, rfl, hc1, hc2⟩ := hz.slice
  have hl : z.ss.length ≤ 64 := by have := hok.len; have := hok.size.2; omega
  have Hz := Lib.hid hz
  obtain ⟨g, rfl, _, hgl⟩ := ownK_form hz.own h00
  have c1 : W.cell? ⟨A, 1, none⟩ = some (.slice (some ⟨g, 0, none⟩) z.ss.length cap) := (hz.blk.cell 1).trans rfl
  unfold maxLen at hc2
  have HY := Lib.hid hY
  have HJ := Lib.hid hJ
  have H64 := Lib.hid hok.w64
  have hz64 := zero_secF
  clear hz hY hJ hok
  refine callsIn_of_wp Try.func68 rfl trivial ?_ rfl
  simp only [Try.ntmps68, List.size_toArray, List.length_cons, List.length_nil, Nat.reduceAdd, Nat.reduceSub, Array.replicate_succ, Array.replicate_zero, List.push_toArray, List.append_toArray, List.nil_append, List.cons_append]
  gi_wp2
  gi_loopw [10] (fun i wr => ∃ k : Nat, k ≤ z.ss.length ∧ i = .int .i64 k ∧ J (List.range k) wr ∧ KpRow (.slice (some ⟨g, 0, none⟩) z.ss.length cap) W wr) (fun i _ => z.ss.length - (intOf i).toNat)
  case atStart => exact ⟨0, Nat.zero_le _, rfl, h0, KpRow.refl _ _⟩
  case round =>
    obtain ⟨k, hk, rfl, hJk, hK⟩ := hrel
    by_cases hlt : k < z.ss.length
    · have hown := ownK_same Hz.out.own hK
      have hrg := own_range hown rfl H64.out k hlt
      have h6 := getD_64 H64.out k hlt
      have hglr := own_lt hown (g := g) rfl
      have He := Lib.hid (range_snoc k)
      have HJ2 : Hid (J (List.range k) (wr.alloc (Obj.cells (bA (z.ss.getD k [])) 34))) := Lib.hid (HJ.out _ _ _ none hJk (World.grownBy_alloc wr _ none) (fun r e => by cases e))
      have HK := Lib.hid (hK.trans (fun g' hg' => Below.heap_alloc wr (Obj.cells (bA (z.ss.getD k [])) 34) g' (own_lt hown hg')))
      obtain ⟨fn, tmps, assign, body, hy, hR⟩ := HY.out _ k _ HJ2.out (by rw [List.length_range]; exact hlt)
      rw [encG_at hlt] at hy
      rw [nrm_of h6] at hy
      generalize z.ss.getD k [] = X at *
      have HX := Lib.hid (Blk.new wr 34 (bA X))
      have Hrg := Lib.hid hrg
      have H6 := Lib.hid h6
      clear hK hown hrg h6 hJk hglr
      gi_wp2_with (first | (refine wplIn_load_b rfl _ _ rfl g (k * 64) rfl X _ Hrg.out Try.underlying34 rfl (by rw [bvals_length]; exact (info_sec H6.out).trans (by rw [bA_size])) ?_; go_frame) | (refine wplIn_store_new rfl _ _ rfl (bA X) wr 34 (bA (zeros 64)) rfl rfl rfl (info_sec H6.out) (by rw [bA_size, bA_size, zeros_length, H6.out]) (bA_one _) ?_; go_frame) | (refine wplIn_load rfl _ rfl (wr.heap.size) rfl _ _ _ (HX.out) Try.underlying34 rfl (info_sec H6.out) ?_; go_frame))
      refine hR.mono ?_
      rintro e W3 (⟨rfl, hJ3, hk3⟩ | ⟨rfl, hJx3⟩)
      · gi_wp2
        go_roundw
        case rel => exact ⟨k + 1, by omega, by go_num, by rw [He.out]; exact hJ3, HK.out.trans hk3⟩
        case measure => simp [intOf]; omega
      · gi_wp2
        refine bodyPost_ret (results_none rfl _ _ _) rfl ?_
        exact ⟨⟨_, rfl⟩, .inr ⟨_, by rw [← He.out]; exact range_prefix _ _ (by omega), hJx3⟩⟩
    · obtain rfl : k = z.ss.length := by omega
      gi_wp2
      go_end0
      exact ⟨⟨_, rfl⟩, .inl ⟨_, rfl, hJk⟩⟩
theorem allG_gives {lo A Bp : Nat} {v : Value} {z : ZsR} (n : Nat) (hn : 1 ≤ n) (w : World) (hz : ZsAt 114 34 lo w A v z) (hok : ZsOk z) (hB : Blk w Bp 93 #[.pointer (some ⟨A, 0, none⟩)]) :
    SeqStopsK Fence.wide n Try.prog 68 #[.pointer (some ⟨Bp, 0, none⟩)] (encG z.ss) (KpRow v) (fun ys => ys = List.range z.ss.length) (fun pre => pre <+: List.range z.ss.length) z.ss.length w := by
  intro l J Jx W hW hJ _ hY h0
  have hz' := hz.below hW
  have hB' := ((hB.below hW hB.lt).cell 0).trans (rfl : (#[Value.pointer (some ⟨A, 0, none⟩)] : Array Value)[0]? = some (.pointer (some ⟨A, 0, none⟩)))
  by_cases h00 : z.ss.length = 0
  · refine (allF_none n hn l (fun _ => J []) (fun _ => Jx []) W hz' h00 hB' h0).mono ?_
    rintro e W' ⟨he, hJ⟩
    refine ⟨he, .inl ⟨[], ?_, hJ⟩⟩
    rw [h00]; rfl
  · exact allG_some n hn l J Jx W hJ hz' hok (by omega) hY hB' h0
end Go.Proofs.Ytajkajgnjcnolaa

