import Derived.Test.YtajkajgnjcnolaaMp17
import Derived.Test.YtajkajgnjcnolaaMp04
import Derived.Deep.Slices
import Derived.Deep.Fields
import Derived.ChangeSame
import Derived.Test.YtajkajgnjcnolaaMp21
import Derived.Test.YtajkajgnjcnolaaMp09
namespace Go.Proofs.Ytajkajgnjcnolaa
open Go.RowKit
set_option linter.unusedVariables false
set_option linter.unnecessarySimpa false
set_option linter.unusedSimpArgs false
structure Op7 where
  k : Int
  z : Int
  off : Int
  s : List Nat
  ka : Option Addr
  kl : Nat
  kc : Nat
  ks : List Int
  deriving Inhabited
def opL (o : Op7) : List Value := [.int .i64 o.k, .int .i64 o.z, .int .i64 o.off] ++ bvals o.s ++ [.slice o.ka o.kl o.kc]
structure Op7Ok (w : World) (o : Op7) : Prop where
  len : o.s.length = 64
  lt : ∀ b ∈ o.s, b < 256
  keep : RowZ w o.ka o.kl o.kc o.ks
  wz : (Lit.int .i64 o.z).wf = true
  wo : (Lit.int .i64 o.off).wf = true
def stSp (d : DvR) (zs : List ZsR) (o : Op7) : OutR :=
  if o.k = 1 then apSp d zs o.z o.s else if o.k = 2 then rdSp d zs o.z o.off else if o.k = 3 then rsSp d zs o.z else if o.k = 4 then fnSp d zs o.z else if o.k = 5 then flSp d zs else if o.k = 6 then crSp d zs else if o.k = 7 then rvSp d zs o.ks else if o.k = 8 then faSp d zs o.z o.off else if o.k = 9 then spSp d zs o.z o.off o.s else ⟨0, 0, d, zs⟩
section
variable {lo D : Nat} {w0 w w' : World} {vz : Value} {l : List ZcR} {d : DvR} {R : OutR} {c c' q : Array Value} {v7 v8 : Value} {zs7 zs8 : List ZsR}
theorem DvTo.keptB {d' : DvR} {zs' : List ZsR} {U : TypeId} {cs : Array Value} {g : Nat} (h : DvTo lo w0 D vz l d' zs' w) (hg : Blk w g U cs) (hl : w0.heap.size ≤ g) (h1 : U ≠ 96) (h2 : U ≠ 93) (h3 : U ≠ 114) (h4 : U ≠ 34) (hk : Kept (· = g) w w') : DvTo lo w0 D vz l d' zs' w' := by
  obtain ⟨l', k1, k2, k3, k4⟩ := h
  exact ⟨l', k1.kept hk (fun i hi e => k1.notblk hg h1 h2 h3 h4 (e ▸ hi)), k2, k3.andThen hk (fun _ _ h => h) (fun i hi e => by omega), k4⟩
theorem Doc.keptB {U : TypeId} {cs : Array Value} {g : Nat} (h : Doc lo w v7 zs7) (hg : Blk w g U cs) (h1 : 87 ≠ U) (h2 : 33 ≠ U) (hk : Kept (· = g) w w') : Doc lo w' v7 zs7 := by
  obtain ⟨l7, r, m⟩ := h
  exact ⟨l7, r.keptB hg h1 h2 hk, m⟩
end
section
variable {P : Program} {w : World} {o : Oper} {a : Act}
theorem exec_eqlS {t : TypeId} {n : Nat} (T : BytesType P t n) (x y : Operand) (rt : TypeId) (ho : o.op = .binOp .eql t x y rt) (xs ys : List Nat) (hx : a.eval x = .agg (bA xs)) (hy : a.eval y = .agg (bA ys)) (hf : xs.length = n) (hg : ys.length = n) (b : Bool) (hb : decide (xs = ys) = b) :
    (execOp a.eval o).run P w = .ok (.value (.bool b)) w := by
  unfold execOp
  simp only [ho, hx, hy, Sem.run_bind, run_eqGuard_agg w .eql t x y (bA xs) (bA ys) T.guard, Result.andThen_ok, run_eql_sector T xs ys hf hg w, Sem.run_pure, hb]
end
end Go.Proofs.Ytajkajgnjcnolaa

namespace Go.Proofs.Ytajkajgnjcnolaa
open Go.RowKit
set_option linter.unusedVariables false
set_option linter.unnecessarySimpa false
set_option linter.unusedSimpArgs false
structure RowOp7 (w : World) (a : Option Addr) (len cap : Nat) (f : Nat → Op7) : Prop where
  le : len ≤ cap
  max : cap ≤ maxLen
  cells : 0 < len → ∃ b off, a = some ⟨b, off, none⟩ ∧ ∀ i, i < len → w.rangeAt b (off + i * 68) (opL (f i)) ∧ Op7Ok w (f i)
theorem RowOp7.lt {w : World} {a : Option Addr} {len cap : Nat} {f : Nat → Op7} (h : RowOp7 w a len cap f) {b off : Nat} (ha : a = some ⟨b, off, none⟩) (h0 : 0 < len) : b < w.heap.size := by
  obtain ⟨b', off', rfl, hc⟩ := h.cells h0
  obtain ⟨rfl, rfl⟩ : b' = b ∧ off' = off := by simpa using ha
  exact block_lt_of_cell ((hc 0 h0).1 0 _ rfl)
theorem RowOp7.at_ {w w' : World} {a : Option Addr} {len cap : Nat} {f : Nat → Op7} (h : RowOp7 w a len cap f) (hb : Below w.heap.size w w') (i : Nat) (hi : i < len) : ∃ b off, a = some ⟨b, off, none⟩ ∧ w'.rangeAt b (off + i * 68) (opL (f i)) ∧ Op7Ok w (f i) := by
  obtain ⟨b, off, rfl, hc⟩ := h.cells (by omega)
  have hl := h.lt rfl (by omega)
  refine ⟨b, off, rfl, fun j u hu => ?_, (hc i hi).2⟩
  exact (World.cell?_of_block (w := w) (w' := w') (a := ⟨b, off + i * 68 + j, none⟩) (hb.block b hl)).trans ((hc i hi).1 j u hu)
section
open Go.ChangeShapes Go.WideShapes
variable {H : Type} {enc : TypeId × Value → H} {w : World}
end
end Go.Proofs.Ytajkajgnjcnolaa

namespace Go.Proofs.Ytajkajgnjcnolaa
open Go.RowKit
set_option linter.unusedVariables false
set_option linter.unnecessarySimpa false
set_option linter.unusedSimpArgs false
structure Op8 where
  k : Int
  z : Int
  off : Int
  s : List Nat
  ka : Option Addr
  kl : Nat
  kc : Nat
  ks : List Int
  e : EvR
def op80 : Op8 := ⟨0, 0, 0, zeros 64, none, 0, 0, [], ev0⟩
instance : Inhabited Op8 := ⟨op80⟩
def op8L (o : Op8) : List Value := ([.int .i64 o.k, .int .i64 o.z, .int .i64 o.off] ++ bvals o.s) ++ (.slice o.ka o.kl o.kc :: evL o.e)
def op8A (o : Op8) : Array Value := (op8L o).toArray
structure Op8Ok (w : World) (o : Op8) : Prop where
  len : o.s.length = 64
  lt : ∀ c ∈ o.s, c < 256
  row : RowZ w o.ka o.kl o.kc o.ks
  ev : EvOk o.e
  wz : (Lit.int .i64 o.z).wf = true
  wo : (Lit.int .i64 o.off).wf = true
theorem op8L_length {o : Op8} (h : o.s.length = 64) (he : o.e.p.length = 64) : (op8L o).length = 136 := by simp [op8L, bvals_length, h, evL_length he]
theorem op8A_size {o : Op8} (h : o.s.length = 64) (he : o.e.p.length = 64) : (op8A o).size = 136 := by show (op8L o).toArray.size = 136; rw [List.size_toArray, op8L_length h he]
theorem op8A_one (o : Op8) : (op8A o).all (·.oneCell') = true := by
  simp only [op8A, Array.all_eq_true_iff_forall_mem, List.mem_toArray]
  intro x hx
  rcases List.mem_append.1 hx with h | h
  · rcases List.mem_append.1 h with h | h
    · simp at h; rcases h with rfl | rfl | rfl <;> rfl
    · exact bvals_one _ x h
  · rcases List.mem_cons.1 h with rfl | h
    · rfl
    · exact evL_one _ x h
theorem op8_0 (o : Op8) : (op8A o)[0]? = some (.int .i64 o.k) := rfl
theorem op8_1 (o : Op8) : (op8A o)[1]? = some (.int .i64 o.z) := rfl
theorem op8_2 (o : Op8) : (op8A o)[2]? = some (.int .i64 o.off) := rfl
theorem op8_67 {o : Op8} (h : o.s.length = 64) : (op8A o)[67]? = some (.slice o.ka o.kl o.kc) := by
  unfold op8A op8L
  rw [List.getElem?_toArray, List.getElem?_append_right (by simp [bvals_length, h])]
  simp [bvals_length, h]
theorem op8_range {w : World} {g : Nat} {t : TypeId} {o : Op8} (h : Blk w g t (op8A o)) : w.rangeAt g 3 (bvals o.s) := by
  intro j u hu
  have hj : j < (bvals o.s).length := (List.getElem?_eq_some_iff.1 hu).1
  rw [h.cell]
  unfold op8A op8L
  rw [List.getElem?_toArray, List.getElem?_append_left (by simp; omega), List.getElem?_append_right (by simp)]
  simpa using hu
theorem op8_ev {w : World} {g : Nat} {t : TypeId} {o : Op8} (h : Blk w g t (op8A o)) (hs : o.s.length = 64) : w.rangeAt g 68 (evL o.e) := by
  intro j u hu
  rw [h.cell]
  unfold op8A op8L
  rw [List.getElem?_toArray, List.getElem?_append_right (by simp [bvals_length, hs]; omega)]
  rw [show 68 + j - ([Value.int .i64 o.k, .int .i64 o.z, .int .i64 o.off] ++ bvals o.s).length = j + 1 by simp [bvals_length, hs]; omega, List.getElem?_cons_succ]
  exact hu
theorem Try.infoOp8 : (Try.prog.info? 39).map (·.size) = some 136 := by kernel_rfl
theorem info_op8 {o : Op8} (h : o.s.length = 64) (he : o.e.p.length = 64) : (Try.prog.info? 39).map (·.size) = some (op8A o).size := by rw [op8A_size h he]; exact Try.infoOp8
structure RowOp8 (w : World) (a : Option Addr) (len cap : Nat) (f : Nat → Op8) : Prop where
  le : len ≤ cap
  max : cap ≤ maxLen
  cells : 0 < len → ∃ b off, a = some ⟨b, off, none⟩ ∧ ∀ i, i < len → w.rangeAt b (off + i * 136) (op8L (f i)) ∧ Op8Ok w (f i)
theorem RowOp8.lt {w : World} {a : Option Addr} {len cap : Nat} {f : Nat → Op8} (h : RowOp8 w a len cap f) {b off : Nat} (ha : a = some ⟨b, off, none⟩) (h0 : 0 < len) : b < w.heap.size := by
  obtain ⟨b', off', rfl, hc⟩ := h.cells h0
  obtain ⟨rfl, rfl⟩ : b' = b ∧ off' = off := by simpa using ha
  exact block_lt_of_cell ((hc 0 h0).1 0 _ rfl)
theorem RowOp8.at_ {w w' : World} {a : Option Addr} {len cap : Nat} {f : Nat → Op8} (h : RowOp8 w a len cap f) (hb : Below w.heap.size w w') (i : Nat) (hi : i < len) : ∃ b off, a = some ⟨b, off, none⟩ ∧ w'.rangeAt b (off + i * 136) (op8L (f i)) ∧ Op8Ok w (f i) := by
  obtain ⟨b, off, rfl, hc⟩ := h.cells (by omega)
  have hl := h.lt rfl (by omega)
  refine ⟨b, off, rfl, fun j u hu => ?_, (hc i hi).2⟩
  exact (World.cell?_of_block (w := w) (w' := w') (a := ⟨b, off + i * 136 + j, none⟩) (hb.block b hl)).trans ((hc i hi).1 j u hu)
section
open Go.ChangeShapes Go.WideShapes
variable {H : Type} {enc : TypeId × Value → H} {w : World}
theorem trod_mix {P : Program} {base : Nat} {spare : Nat → Bool} {held : Bool} {t : TypeId} {n k : Nat} {cs : List Value} {fuel : Nat} {x : DataW H × List MemPlace} (T : MixType P t n k) (hf : DataW.trod enc P w base spare held fuel t cs = some x) :
    ∃ (zs : List Int) (bs : List Nat), cs = mixL zs bs ∧ zs.length = n ∧ bs.length = k ∧ (∀ z ∈ zs, (Lit.int .i64 z).wf = true) ∧ ∀ c ∈ bs, c < 256 := by
  obtain ⟨fs, fb, e, hu, hl, hI, nb, ob, ub, ue, cb, ce⟩ := T.fields
  obtain ⟨xs, m, _, _, hlc, hxl, hat⟩ := DataW.trod_struct hu hf
  have hxl' : xs.length = n + 1 := by rw [hxl]; simp [hl]
  have hsome : ∀ i, i < n + 1 → (xs[i]?).isSome = true := fun i hi => by simp [hxl', hi]
  have hint : ∀ f ∈ fs, (DataW.trod enc P w base spare held m f.type ((cs.drop f.offset).take (P.cellsOf f.type))).isSome = true := fun f hf => by
    obtain ⟨i, hi, rfl⟩ := List.getElem_of_mem hf
    rw [hat i _ (by rw [List.getElem?_toArray, List.getElem?_append_left hi, List.getElem?_eq_getElem hi])]
    exact hsome i (by omega)
  obtain ⟨zs, hzl, hwf, hz⟩ := open_intFields fs 0 hI hint
  obtain ⟨y, hy⟩ := Option.isSome_iff_exists.1 (hsome n (by omega))
  have tb := (hat n fb (by rw [List.getElem?_toArray, List.getElem?_append_right (by omega), hl, Nat.sub_self]; rfl)).trans hy
  rw [cb, ob] at tb
  obtain ⟨bs, hb, hbl, hblt⟩ := trod_bytes ub ue ce cb tb
  refine ⟨zs, bs, ?_, hzl.trans hl, hbl, hwf, hblt⟩
  rw [T.cells] at hlc
  have hn : cs.drop n = bvals bs := by rw [← hb, List.take_of_length_le (by simp; omega)]
  rw [List.drop_zero, Nat.zero_add, hl, hn] at hz
  rw [hz]; rfl
theorem Try.cellsOp8 : Try.prog.cellsOf 39 = 136 := by kernel_rfl
theorem Try.cellsEv8 : Try.prog.cellsOf 37 = 68 := by kernel_rfl
theorem Try.cellsInt8 : Try.prog.cellsOf 3 = 1 := by kernel_rfl
theorem Try.cellsSec8 : Try.prog.cellsOf 34 = 64 := by kernel_rfl
theorem Try.cellsInts8 : Try.prog.cellsOf 35 = 1 := by kernel_rfl
theorem open_rowZ8 {fuel : Nat} {cs : List Value} {x : DataW H × List MemPlace} (hf : DataW.trod enc Try.prog w 0 (fun _ => true) true fuel 35 cs = some x) : ∃ a n c zs, cs = [.slice a n c] ∧ RowZ w a n c zs := by
  rcases open_ints Try.underlying35 Try.underlying3 (by kernel_rfl) hf with ⟨hcs, _⟩ | ⟨x, l, c, zs, hcs, _, hl, hm, hz, _, hcell, hwz⟩
  · exact ⟨none, 0, 0, [], hcs, rowZ_nil w⟩
  · obtain ⟨bs, h⟩ := rowZ_of_ints hl hm (by simpa using hz) hcell hwz
    exact ⟨some x, l, c, bs, hcs, h⟩
theorem cut8 (l : List Value) (o : Nat) (v : Value) (hh : (l.drop o).take 1 = [v]) : l.drop o = v :: l.drop (o + 1) := by
  by_cases ho : o < l.length
  · rw [List.drop_eq_getElem_cons ho] at hh
    simp only [List.take_succ_cons, List.take_zero, List.cons.injEq, and_true] at hh
    rw [List.drop_eq_getElem_cons ho, hh]
  · rw [List.drop_of_length_le (by omega)] at hh; simp at hh
set_option maxRecDepth 100000 in
theorem open_op8 {fuel : Nat} {cs : List Value} {x : DataW H × List MemPlace} (hlen : cs.length = 136) (ht : DataW.trod enc Try.prog w 0 (fun _ => true) true fuel 39 cs = some x) : ∃ it : Op8, cs = op8L it ∧ Op8Ok w it := by
  obtain ⟨ys, n', _, _, _, hyl, hf⟩ := DataW.trod_struct Try.underlying39 ht
  match ys, hyl with
  | [y0, y1, y2, y3, y4, y5], _ =>
    have g0 : DataW.trod enc Try.prog w 0 (fun _ => true) true n' 3 (List.take (Try.prog.cellsOf 3) (List.drop 0 cs)) = some y0 := hf 0 _ rfl
    have g1 : DataW.trod enc Try.prog w 0 (fun _ => true) true n' 3 (List.take (Try.prog.cellsOf 3) (List.drop 1 cs)) = some y1 := hf 1 _ rfl
    have g2 : DataW.trod enc Try.prog w 0 (fun _ => true) true n' 3 (List.take (Try.prog.cellsOf 3) (List.drop 2 cs)) = some y2 := hf 2 _ rfl
    have g3 : DataW.trod enc Try.prog w 0 (fun _ => true) true n' 34 (List.take (Try.prog.cellsOf 34) (List.drop 3 cs)) = some y3 := hf 3 _ rfl
    have g4 : DataW.trod enc Try.prog w 0 (fun _ => true) true n' 35 (List.take (Try.prog.cellsOf 35) (List.drop 67 cs)) = some y4 := hf 4 _ rfl
    have g5 : DataW.trod enc Try.prog w 0 (fun _ => true) true n' 37 (List.take (Try.prog.cellsOf 37) (List.drop 68 cs)) = some y5 := hf 5 _ rfl
    rw [Try.cellsInt8] at g0 g1 g2
    rw [Try.cellsSec8] at g3
    rw [Try.cellsInts8] at g4
    rw [Try.cellsEv8] at g5
    obtain ⟨z0, e0, _, f0⟩ := DataW.trod_int Try.underlying3 g0
    obtain ⟨z1, e1, _, f1⟩ := DataW.trod_int Try.underlying3 g1
    obtain ⟨z2, e2, _, f2⟩ := DataW.trod_int Try.underlying3 g2
    obtain ⟨bs, e3, hbl, hblt⟩ := trod_bytes Try.underlying34 Try.underlying5 Try.cellsByte Try.cellsSec8 g3
    obtain ⟨a4, n4, c4, zs4, e4, r4⟩ := open_rowZ8 g4
    obtain ⟨zs5, bs5, e5, hz5, hb5, hw5, hl5⟩ := trod_mix tyEv g5
    match zs5, hz5, hw5, e5 with
    | [p0, p1, p2, p3], _, hw5, e5 =>
      refine ⟨⟨z0, z1, z2, bs, a4, n4, c4, zs4, ⟨p0, p1, p2, p3, bs5⟩⟩, ?_, ⟨hbl, hblt, r4, ⟨hb5, hl5, hw5⟩, f1, f2⟩⟩
      have h0 := cut8 cs 0 _ e0
      have h3 : cs.drop 3 = bvals bs ++ cs.drop 67 := by rw [← e3, ← List.drop_drop (i := 64) (j := 3), List.take_append_drop]
      have h68 : cs.drop 68 = mixL [p0, p1, p2, p3] bs5 := by rw [← e5, List.take_of_length_le (by simp; omega)]
      rw [List.drop_zero, cut8 cs 1 _ e1, cut8 cs 2 _ e2, h3, cut8 cs 67 _ e4, h68] at h0
      rw [h0]
      simp [op8L, evL, evZ]
theorem open_ops8 {fuel : Nat} {a : Option Addr} {len cap : Nat} {x : DataW H × List MemPlace} (h : DataW.trod enc Try.prog w 0 (fun _ => true) true fuel 22 [.slice a len cap] = some x) : ∃ f, RowOp8 w a len cap f := by
  rcases Go.Deep.open_slice Try.underlying22 h with ⟨hcs, _⟩ | ⟨ad, l, c, m, n, D, Pl, hcs, hb, hl, hm, hmm, hx, hi⟩
  · simp at hcs
    obtain ⟨rfl, rfl, rfl⟩ := hcs
    exact ⟨fun _ => default, Nat.le_refl _, Nat.zero_le _, fun h => absurd h (by decide)⟩
  · simp at hcs
    obtain ⟨rfl, rfl, rfl⟩ := hcs
    have hle : len ≤ m := by rw [hmm]; simpa using hl
    rw [Try.cellsOp8] at hi
    have hall : ∀ i, i < len → ∃ it : Op8, (∀ j u, (op8L it)[j]? = some u → w.cell? ((ad.add (i * 136)).add j) = some u) ∧ Op8Ok w it := fun i hil => by
      obtain ⟨cs', hc, ht⟩ := hi i (by omega)
      obtain ⟨_, hlen, hcell⟩ := World.cells?_some hc
      obtain ⟨it, rfl, hok⟩ := open_op8 hlen ht
      refine ⟨it, fun j u hu => ?_, hok⟩
      have hj : j < (op8L it).length := (List.getElem?_eq_some_iff.1 hu).1
      rw [hcell j (by rw [op8L_length hok.len hok.ev.len] at hj; exact hj)]
      exact hu
    obtain ⟨f, hf⟩ := Go.Deep.choose_lt hall
    refine ⟨f, hl, hm, fun h0 => ?_⟩
    obtain ⟨b, off, spot⟩ := ad
    have hs : spot = none := by
      have h := (hf 0 h0).1 0 _ rfl
      simpa [Addr.add] using World.cell?_spot h
    subst hs
    refine ⟨b, off, rfl, fun i hil => ⟨fun j u hu => ?_, (hf i hil).2⟩⟩
    have h1 := (hf i hil).1 j u hu
    have e : (⟨b, off, none⟩ : Addr).add (i * 136) = ⟨b, off + i * 136, none⟩ := Addr.add_mid b off (i * 136)
    have e2 : (⟨b, off + i * 136, none⟩ : Addr).add j = ⟨b, off + i * 136 + j, none⟩ := Addr.add_mid b (off + i * 136) j
    rw [e, e2] at h1
    exact h1
end
theorem ev0_len : ev0.p.length = 64 := zeros_length 64
set_option maxRecDepth 100000 in
set_option maxHeartbeats 2000000 in
theorem of8 (e : EvR) (w : World) (hl : e.p.length = 64) :
    Calls Try.prog 40 #[.agg (evA e)] w fun en w' => en = .returned (.agg (evA e)) ∧ Below w.heap.size w w' := by
  obtain ⟨ea, ek, ez, eo, y⟩ := e
  simp only at hl
  obtain ⟨g, rfl⟩ := list_as hl
  generalize he : (⟨ea, ek, ez, eo, (List.range 64).map g⟩ : EvR) = e at *
  have h0 : e.at_ = ea := by rw [← he]
  have h1 : e.kind = ek := by rw [← he]
  have h2 : e.zone = ez := by rw [← he]
  have h3 : e.off = eo := by rw [← he]
  have h6 : e.p = (List.range 64).map g := by rw [← he]
  have hL : e.p.length = 64 := by rw [h6]; exact hl
  have hX : Blk ((w.alloc (Obj.cells (evA e) 37)).alloc (Obj.cells (evA ev0) 83)) w.heap.size 37 (evA e) := Blk.alloc (Blk.new w 37 (evA e)) _
  have hO : Blk ((w.alloc (Obj.cells (evA e) 37)).alloc (Obj.cells (evA ev0) 83)) (w.heap.size + 1) 83 (evA ev0) := by
    have h := Blk.new (w.alloc (Obj.cells (evA e) 37)) 83 (evA ev0)
    rwa [show (w.alloc (Obj.cells (evA e) 37)).heap.size = w.heap.size + 1 by simp] at h
  have HB : Hid (Below w.heap.size w ((w.alloc (Obj.cells (evA e) 37)).alloc (Obj.cells (evA ev0) 83))) := Lib.hid (bthen (below_alloc _ _) (below_alloc _ _))
  have c0 := (hX.cell 0).trans (evA_at0 e)
  rw [h0] at c0
  have c1 := (hX.cell 1).trans (evA_at1 e)
  rw [h1] at c1
  have c2 := (hX.cell 2).trans (evA_at2 e)
  rw [h2] at c2
  have c3 := (hX.cell 3).trans (evA_at3 e)
  rw [h3] at c3
  have HR : Hid (((w.alloc (Obj.cells (evA e) 37)).alloc (Obj.cells (evA ev0) 83)).rangeAt w.heap.size 4 (bvals ((List.range 64).map g))) := Lib.hid (h6 ▸ ev_range hX)
  have HO := Lib.hid hO
  have HE := Lib.hid he
  have HL := Lib.hid hL
  have Hl := Lib.hid hl
  have hz := Try.zero_e8
  clear hX hO he hL hl h0 h1 h2 h3 h6
  go_enter Try.func40, Try.ntmps40
  go_wp2_with (first | (refine wpl_load_mid (by rfl) 34 _ rfl (w.heap.size) 4 rfl ((List.range 64).map g) _ HR.out Try.underlying34 rfl (by rw [bvals_length]; exact (info_sec Hl.out).trans (by rw [bA_size])) ?_; go_frame) | (refine wpl_build (by rfl) 83 _ rfl (.agg (evA ⟨ea, ek, ez, eo, (List.range 64).map g⟩)) (fun _ => by kernel_rfl) ?_; rw [HE.out]; go_frame) | (refine wpl_store rfl _ _ rfl (w.heap.size + 1) (evA e) rfl rfl _ _ HO.out (info_e8A HL.out) ((evA_size ev0_len).trans (evA_size HL.out).symm) (evA_one _) ?_; intro w9 hS9 hK9; have HS9 := Lib.hid hS9; have HK9 := Lib.hid hK9; clear hS9 hK9; go_frame))
  exact bodyPost_ret (v := .agg (evA e)) (results_cell_row Try.results40 _ _ (w.heap.size + 1) _ _ (0, 0) _ rfl HS9.out Try.underlying83 rfl (info_e8A HL.out)) rfl ⟨rfl, bkept HB.out (Nat.le_refl _) HK9.out (fun i hi h => by omega)⟩
end Go.Proofs.Ytajkajgnjcnolaa

namespace Go.Proofs.Ytajkajgnjcnolaa
open Go.RowKit
set_option linter.unusedVariables false
set_option linter.unnecessarySimpa false
set_option linter.unusedSimpArgs false
def Mk := Int → Int → List Nat × Int
structure St8 where
  R : DuR
  M : Mk
def mk0 (M : Mk) (z o : Int) : Mk := fun z' o' => if z' = z ∧ o' = o then (zeros 64, 0) else M z' o'
def mkS (M : Mk) (z o : Int) (p : List Nat) : Mk := fun z' o' => if z' = z ∧ o' = o then (zx (M z' o').1 p 64, (M z' o').2 + 1) else M z' o'
def hapM (d : DvR) (zs : List ZsR) (e : EvR) (M : Mk) : Mk := if e.kind = 1 ∧ (spSp d zs e.zone e.off e.p).e = 0 then mkS M e.zone e.off e.p else M
def dueM : DvR → List ZsR → List EvR → Mk → Mk
  | _, _, [], M => M
  | d, zs, e :: cs, M => if d.down = false ∧ e.at_ ≤ d.count then dueM (hapSp d zs e).d (hapSp d zs e).zs cs (hapM d zs e M) else M
def St8.due (S : St8) (zone : Int) (fl : Bool) : St8 := ⟨dueD S.R.d S.R.zs S.R.cs S.R.h zone fl, if fl = true ∨ dhB S.R.zs.length zone = true then dueM S.R.d S.R.zs S.R.cs S.M else S.M⟩
def St8.put (S : St8) (O : OutR) (M : Mk) : St8 := ⟨⟨O.d, O.zs, S.R.cs, S.R.h⟩, M⟩
def St8.apO (S : St8) (z : Int) (s : List Nat) : OutR := apSp (S.due z false).R.d (S.due z false).R.zs z s
def St8.rdO (S : St8) (z off : Int) : OutR := rdSp (S.due z false).R.d (S.due z false).R.zs z off
def St8.rdV (S : St8) (z off : Int) : List Nat := rdV7 (S.due z false).R.d (S.due z false).R.zs z off
def St8.rsO (S : St8) (z : Int) : OutR := rsSp (S.due z false).R.d (S.due z false).R.zs z
def St8.fnO (S : St8) (z : Int) : OutR := fnSp (S.due z false).R.d (S.due z false).R.zs z
def St8.flO (S : St8) : OutR := flSp (S.due 0 true).R.d (S.due 0 true).R.zs
def St8.rvO (S : St8) (ks : List Int) : OutR := rvSp S.R.d S.R.zs ks
def St8.ap (S : St8) (z : Int) (s : List Nat) : St8 := (S.due z false).put (S.apO z s) (if (S.apO z s).e = 0 then mk0 (S.due z false).M z (S.apO z s).o else (S.due z false).M)
def St8.rd (S : St8) (z off : Int) : St8 := (S.due z false).put (S.rdO z off) (S.due z false).M
def St8.rs (S : St8) (z : Int) : St8 := (S.due z false).put (S.rsO z) (S.due z false).M
def St8.fn (S : St8) (z : Int) : St8 := (S.due z false).put (S.fnO z) (S.due z false).M
def St8.fl (S : St8) : St8 := (S.due 0 true).put S.flO (S.due 0 true).M
def St8.rv (S : St8) (ks : List Int) : St8 := S.put (S.rvO ks) S.M
def St8.pl (S : St8) (e : EvR) : St8 := ⟨⟨S.R.d, S.R.zs, plL e S.R.cs, S.R.h⟩, S.M⟩
def St8.plN (S : St8) (e : EvR) : Nat → St8
  | 0 => S
  | n + 1 => (S.plN e n).pl e
def st8 (S : St8) (o : Op8) : St8 :=
  if o.k = 1 then S.ap o.z o.s else if o.k = 2 then S.rd o.z o.off else if o.k = 3 then S.rs o.z else if o.k = 4 then S.fn o.z else if o.k = 5 then S.fl else if o.k = 6 then S.rv o.ks else if o.k = 7 then S.pl o.e else if o.k = 8 then S.plN o.e (max (min o.off 300) 0).toNat else S
structure Fine (S : St8) : Prop where
  n0 : 0 ≤ S.R.d.count
  n1 : S.R.d.count ≤ 1000
  cs : S.R.cs.length ≤ 256
  h : S.R.h.length ≤ 30000
theorem hapSp_count (d : DvR) (zs : List ZsR) (e : EvR) : (hapSp d zs e).d.count = d.count ∧ (hapSp d zs e).zs.length = zs.length := by
  have fa : ∀ i st, (faSp d zs i st).d.count = d.count ∧ (faSp d zs i st).zs.length = zs.length := fun i st => by unfold faSp; split <;> simp
  unfold hapSp
  split
  · unfold spSp; split <;> simp
  · split
    · exact fa _ _
    · split
      · exact fa _ _
      · split <;> exact ⟨rfl, rfl⟩
theorem dueF_facts : ∀ (cs : List EvR) (d : DvR) (zs : List ZsR) (h : List EvR), (∀ e ∈ cs, EvOk e) → Sane d zs → Sane (dueF d zs cs h).d (dueF d zs cs h).zs ∧ (dueF d zs cs h).d.count = d.count ∧ (dueF d zs cs h).zs.length = zs.length ∧ (dueF d zs cs h).cs.length ≤ cs.length ∧ (dueF d zs cs h).h.length + (dueF d zs cs h).cs.length = h.length + cs.length
  | [], d, zs, h, _, sn => ⟨sn, rfl, rfl, Nat.le_refl _, rfl⟩
  | e :: cs, d, zs, h, hok, sn => by
    by_cases hg : d.down = false ∧ e.at_ ≤ d.count
    · rw [dueF_go hg.1 hg.2]
      obtain ⟨h1, h2, h3, h4, h5⟩ := dueF_facts cs _ _ (h ++ [e]) (fun x hx => hok x (by simp [hx])) (hapSp_sane sn (hok e (by simp)))
      obtain ⟨c1, c2⟩ := hapSp_count d zs e
      exact ⟨h1, h2.trans c1, h3.trans c2, by simp; omega, by simp at h5 ⊢; omega⟩
    · have hE : dueF d zs (e :: cs) h = ⟨d, zs, e :: cs, h⟩ := by rw [dueF, if_neg hg]
      rw [hE]
      exact ⟨sn, rfl, rfl, Nat.le_refl _, rfl⟩
theorem due_facts {S : St8} (z : Int) (fl : Bool) (hok : ∀ e ∈ S.R.cs, EvOk e) (sn : Sane S.R.d S.R.zs) : Sane (S.due z fl).R.d (S.due z fl).R.zs ∧ (S.due z fl).R.d.count = S.R.d.count ∧ (S.due z fl).R.zs.length = S.R.zs.length := by
  unfold St8.due dueD
  dsimp only
  split
  · obtain ⟨h1, h2, h3, _⟩ := dueF_facts S.R.cs S.R.d S.R.zs S.R.h hok sn
    exact ⟨h1, h2, h3⟩
  · exact ⟨sn, rfl, rfl⟩
def st80 (n : Nat) (size opn : Int) : St8 := ⟨⟨dv0 size opn, List.replicate n (zs0 size), [], []⟩, fun _ _ => (zeros 64, 0)⟩
def docT (t : TypeId) : Bool := t == 30 || t == 83 || t == 87 || t == 33 || t == 39 || t == 27
structure Drv where
  At : Nat → World → Nat → St8 → (Nat → Prop) → Prop
  below : ∀ {lo w w' X S F}, At lo w X S F → Below w.heap.size w w' → At lo w' X S F
  kept : ∀ {lo w w' X S F T}, At lo w X S F → Kept T w w' → (∀ i, F i → ¬ T i) → At lo w' X S F
  lov : ∀ {lo w X S F i}, At lo w X S F → F i → lo ≤ i
  lt : ∀ {lo w X S F i}, At lo w X S F → F i → i < w.heap.size
  not : ∀ {lo w X S F g t cs}, At lo w X S F → Blk w g t cs → docT t = true → ¬ F g
  sane : ∀ {lo w X S F}, At lo w X S F → Sane S.R.d S.R.zs
  neu : ∀ {lo w} (n : Nat) (size opn : Int), 1 ≤ n ∧ n ≤ 512 → 1 ≤ opn ∧ opn ≤ 64 → 1 ≤ size ∧ size ≤ 64 → lo ≤ w.heap.size → Calls Try.prog 24 #[.int .i64 (n : Nat), .int .i64 size, .int .i64 opn] w fun e w' => ∃ X F, e = .returned (.tuple #[.pointer (some ⟨X, 0, none⟩), .int .i64 0]) ∧ At lo w' X (st80 n size opn) F ∧ Below w.heap.size w w'
  neuNo : ∀ {w} (n size opn : Int), ¬ ((1 ≤ n ∧ n ≤ 512) ∧ (1 ≤ size ∧ size ≤ 64) ∧ 1 ≤ opn ∧ opn ≤ 64) → Calls Try.prog 24 #[.int .i64 n, .int .i64 size, .int .i64 opn] w fun e w' => e = .returned (.tuple #[.pointer none, .int .i64 13]) ∧ Below w.heap.size w w'
  dev : ∀ {lo w X S F}, At lo w X S F → Calls Try.prog 12 #[.pointer (some ⟨X, 0, none⟩)] w fun e w' => ∃ D vz l, e = .returned (.pointer (some ⟨D, 0, none⟩)) ∧ w = w' ∧ DvAt lo w D vz S.R.d l ∧ l.map ZcR.z = S.R.zs
  ap : ∀ {lo w X S F} (z : Int) (s : List Nat), s.length = 64 → (∀ b ∈ s, b < 256) → At lo w X S F → Fine S → Calls Try.prog 25 #[.pointer (some ⟨X, 0, none⟩), .int .i64 z, .agg (bA s)] w fun e w' => e = .returned (.tuple #[.int .i64 (S.apO z s).o, .int .i64 (S.apO z s).e]) ∧ ∃ F', At lo w' X (S.ap z s) F' ∧ Kept F w w' ∧ ∀ i, F' i → F i ∨ w.heap.size ≤ i
  rd : ∀ {lo w X S F} (z off : Int), At lo w X S F → Fine S → Calls Try.prog 29 #[.pointer (some ⟨X, 0, none⟩), .int .i64 z, .int .i64 off] w fun e w' => e = .returned (.tuple #[.agg (bA (S.rdV z off)), .int .i64 (S.rdO z off).e]) ∧ ∃ F', At lo w' X (S.rd z off) F' ∧ Kept F w w' ∧ ∀ i, F' i → F i ∨ w.heap.size ≤ i
  rs : ∀ {lo w X S F} (z : Int), At lo w X S F → Fine S → Calls Try.prog 32 #[.pointer (some ⟨X, 0, none⟩), .int .i64 z] w fun e w' => e = .returned (.int .i64 (S.rsO z).e) ∧ ∃ F', At lo w' X (S.rs z) F' ∧ Kept F w w' ∧ ∀ i, F' i → F i ∨ w.heap.size ≤ i
  fn : ∀ {lo w X S F} (z : Int), At lo w X S F → Fine S → Calls Try.prog 34 #[.pointer (some ⟨X, 0, none⟩), .int .i64 z] w fun e w' => e = .returned (.int .i64 (S.fnO z).e) ∧ ∃ F', At lo w' X (S.fn z) F' ∧ Kept F w w' ∧ ∀ i, F' i → F i ∨ w.heap.size ≤ i
  fl : ∀ {lo w X S F}, At lo w X S F → Fine S → Calls Try.prog 36 #[.pointer (some ⟨X, 0, none⟩)] w fun e w' => e = .returned (.int .i64 S.flO.e) ∧ ∃ F', At lo w' X S.fl F' ∧ Kept F w w' ∧ ∀ i, F' i → F i ∨ w.heap.size ≤ i
  rv : ∀ {lo w X S F ka kl kc ks}, At lo w X S F → (∃ w0, RowZ w0 ka kl kc ks ∧ Below w0.heap.size w0 w ∧ w0.heap.size ≤ lo) → Fine S → Calls Try.prog 37 #[.pointer (some ⟨X, 0, none⟩), .slice ka kl kc] w fun e w' => e = .returned (.tuple #[]) ∧ ∃ F', At lo w' X (S.rv ks) F' ∧ Kept F w w' ∧ ∀ i, F' i → F i ∨ w.heap.size ≤ i
  pl : ∀ {lo w X S F} (e : EvR), EvOk e → At lo w X S F → Fine S → Calls Try.prog 23 #[.pointer (some ⟨X, 0, none⟩), .agg (evA e)] w fun en w' => en = .returned (.int .i64 (plE e S.R.cs)) ∧ ∃ F', At lo w' X (S.pl e) F' ∧ Kept F w w' ∧ ∀ i, F' i → F i ∨ w.heap.size ≤ i
section
variable {C : Drv} {lo X : Nat} {w w' w1 w2 : World} {S S' S2 : St8} {F : Nat → Prop}
def DrTo (C : Drv) (lo : Nat) (w : World) (X : Nat) (F : Nat → Prop) (S' : St8) (w' : World) : Prop := ∃ F', C.At lo w' X S' F' ∧ Kept F w w' ∧ ∀ i, F' i → F i ∨ w.heap.size ≤ i
theorem DrTo.below (h : DrTo C lo w X F S' w1) (hb : Below w1.heap.size w1 w') : DrTo C lo w X F S' w' := by
  obtain ⟨F', h1, h2, h3⟩ := h
  exact ⟨F', C.below h1 hb, kept_next h2 hb, h3⟩
theorem DrTo.after (hb : Below w.heap.size w w1) (h : DrTo C lo w1 X F S' w') : DrTo C lo w X F S' w' := by
  obtain ⟨F', h1, h2, h3⟩ := h
  refine ⟨F', h1, (Kept.of_below (S := fun _ => False) hb).andThen h2 (fun _ _ h => h.elim) (fun _ _ h => h), fun i hi => ?_⟩
  rcases h3 i hi with h | h
  · exact .inl h
  · exact .inr (Nat.le_trans hb.size h)
theorem DrTo.same (h : C.At lo w X S F) (hb : Below w.heap.size w w') : DrTo C lo w X F S w' := ⟨F, C.below h hb, Kept.of_below hb, fun _ h => .inl h⟩
theorem DrTo.keptB {U : TypeId} {cs : Array Value} {g : Nat} (h : DrTo C lo w X F S' w1) (hg : Blk w1 g U cs) (hl : w.heap.size ≤ g) (h1 : docT U = true) (hk : Kept (· = g) w1 w') : DrTo C lo w X F S' w' := by
  obtain ⟨F', k1, k2, k3⟩ := h
  exact ⟨F', C.kept k1 hk (fun i hi e => C.not k1 hg h1 (e ▸ hi)), k2.andThen hk (fun _ _ h => h) (fun i hi e => by omega), k3⟩
theorem DrTo.blk {U : TypeId} {cs : Array Value} {g : Nat} (h : DrTo C lo w X F S' w') (hA : C.At lo w X S F) (hg : Blk w g U cs) (h1 : docT U = true) : Blk w' g U cs := by
  obtain ⟨F', k1, k2, k3⟩ := h
  exact hg.kept k2 (C.not hA hg h1)
structure Dc (lo : Nat) (w : World) (vz vc vh : Value) (R : DuR) : Prop where
  zs : Doc lo w vz R.zs
  cs : RdE 83 lo w vc R.cs
  h : RowE 83 lo w vh R.h
theorem own_blk {base : Nat} {e : TypeId} {sz n : Nat} {v : Value} {xs : List Value} (h : w.ownsRow base e sz v n xs) {g : Nat} (hg : v.ownBlock = some g) : ∃ cur, Blk w g e cur := by
  rcases h.2 with ⟨rfl, _⟩ | ⟨g', cap, cur, rfl, _, hh, _⟩
  · simp [Value.ownBlock] at hg
  · obtain rfl : g' = g := by simpa [Value.ownBlock] using hg
    exact ⟨cur, hh⟩
theorem Dc.below {vz vc vh : Value} {R : DuR} (h : Dc lo w vz vc vh R) (hb : Below w.heap.size w w') : Dc lo w' vz vc vh R := ⟨h.zs.below hb, h.cs.below hb, h.h.below hb⟩
theorem Dc.keptF {T : Nat → Prop} {vz vc vh : Value} {R : DuR} (h : Dc lo w vz vc vh R) (k : Kept T w w') (hn : ∀ g t cs, Blk w g t cs → (t = 83 ∨ t = 87 ∨ t = 33) → ¬ T g) : Dc lo w' vz vc vh R := by
  obtain ⟨⟨l, hr, hm⟩, h2, h3⟩ := h
  refine ⟨⟨l, ⟨own_kept hr.own k (fun g hg => ?_), fun p hp => own_kept (hr.each p hp) k (fun g hg => ?_)⟩, hm⟩, h2.kept k (fun g hg => ?_), h3.kept k (fun g hg => ?_)⟩
  · obtain ⟨cur, hb⟩ := own_blk hr.own hg
    exact hn g _ _ hb (.inr (.inl rfl))
  · obtain ⟨cur, hb⟩ := own_blk (hr.each p hp) hg
    exact hn g _ _ hb (.inr (.inr rfl))
  · obtain ⟨cur, hb⟩ := h2.blk hg
    exact hn g _ _ hb (.inl rfl)
  · obtain ⟨cur, hb⟩ := own_blk h3.own hg
    exact hn g _ _ hb (.inl rfl)
theorem Dc.keptB {vz vc vh : Value} {R : DuR} {U : TypeId} {cs : Array Value} {g : Nat} (h : Dc lo w vz vc vh R) (hg : Blk w g U cs) (h1 : U ≠ 83) (h2 : U ≠ 87) (h3 : U ≠ 33) (hk : Kept (· = g) w w') : Dc lo w' vz vc vh R :=
  h.keptF hk (fun g' t' cs' hb ht e => by
    subst e
    refine Blk.unlike hb hg ?_ rfl
    rcases ht with rfl | rfl | rfl
    · exact h1.symm
    · exact h2.symm
    · exact h3.symm)
theorem Dc.cmd {vz vc vh : Value} {R : DuR} (h : Dc lo w vz vc vh R) (hA : C.At lo w X S F) (hT : DrTo C lo w X F S' w') : Dc lo w' vz vc vh R := by
  obtain ⟨F', k1, k2, k3⟩ := hT
  refine h.keptF k2 (fun g t cs hb ht => C.not hA hb ?_)
  rcases ht with rfl | rfl | rfl <;> decide
def STo8 (C : Drv) (lo : Nat) (w : World) (X : Nat) (F : Nat → Prop) (S' : St8) (e : Ending) (w' : World) : Prop :=
  ∃ az nz cz ac cc ah ch, e = .returned (.tuple #[.agg (d8A (dd7 S'.R.d) (.slice az nz cz) (.slice ac S'.R.cs.length cc) (.slice ah S'.R.h.length ch)), .bool true]) ∧ Dc lo w' (.slice az nz cz) (.slice ac S'.R.cs.length cc) (.slice ah S'.R.h.length ch) S'.R ∧ DrTo C lo w X F S' w'
structure Aft8 (C : Drv) (lo X : Nat) (w0 : World) (F : Nat → Prop) (S' : St8) (c c' q : Array Value) (w : World) : Prop where
  x : Blk w w0.heap.size 30 c
  y : Blk w (w0.heap.size + 1) 39 c'
  g : Blk w (w0.heap.size + 2) 30 q
  dr : DrTo C lo w0 X F S' w
variable {w0 : World} {c c' q : Array Value}
theorem Aft8.below (h : Aft8 C lo X w0 F S' c c' q w) (hb : Below w.heap.size w w') : Aft8 C lo X w0 F S' c c' q w' := ⟨h.x.below hb h.x.lt, h.y.below hb h.y.lt, h.g.below hb h.g.lt, h.dr.below hb⟩
theorem Aft8.out {q' : Array Value} (h : Aft8 C lo X w0 F S' c c' q w) (hg : Blk w' (w0.heap.size + 2) 30 q') (hk : Kept (· = w0.heap.size + 2) w w') : Aft8 C lo X w0 F S' c c' q' w' :=
  ⟨h.x.kept hk (by simp), h.y.kept hk (by simp), hg, h.dr.keptB h.g (by omega) (by decide) hk⟩
theorem Aft8.inx {x : Array Value} (h : Aft8 C lo X w0 F S' c c' q w) (hx : Blk w' w0.heap.size 30 x) (hk : Kept (· = w0.heap.size) w w') : Aft8 C lo X w0 F S' x c' q w' :=
  ⟨hx, h.y.kept hk (by simp), h.g.kept hk (by simp), h.dr.keptB h.x (Nat.le_refl _) (by decide) hk⟩
theorem Trio7.cmd8 (h : Trio7 30 39 30 w0 c c' q w) (hA : C.At lo w X S F) (hT : DrTo C lo w X F S' w2) : Aft8 C lo X w0 F S' c c' q w2 :=
  ⟨hT.blk hA h.x (by decide), hT.blk hA h.y (by decide), hT.blk hA h.g (by decide), DrTo.after h.b hT⟩
end
end Go.Proofs.Ytajkajgnjcnolaa

