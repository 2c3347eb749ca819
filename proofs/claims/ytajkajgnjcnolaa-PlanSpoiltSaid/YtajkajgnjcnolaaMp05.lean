import Derived.Test.YtajkajgnjcnolaaMp04
import Derived.Great.BuildSlice
import Derived.Laws.CopyRow
namespace Go.Proofs.Ytajkajgnjcnolaa
open Go.RowKit
set_option linter.unusedVariables false
set_option linter.unnecessarySimpa false
set_option linter.unusedSimpArgs false
theorem fold_set (l : List Value) : ∀ (k : Nat) (acc : Array Value), acc.size = k + l.length → ((l.zipIdx k).foldl (fun (cs : Array Value) (x : Value × Nat) => cs.setIfInBounds (0 + x.2) x.1) acc).toList = acc.toList.take k ++ l := by
  induction l with
  | nil =>
    intro k acc h
    simp at h
    simp [List.take_of_length_le (show acc.toList.length ≤ k by simp; omega)]
  | cons c l ih =>
    intro k acc h
    simp only [List.length_cons] at h
    rw [List.zipIdx_cons, List.foldl_cons, ih (k + 1) _ (by simp; omega)]
    simp only [Nat.zero_add, Array.toList_setIfInBounds]
    rw [List.take_succ_eq_append_getElem (by simp; omega), List.take_set_of_le (Nat.le_refl _)]
    simp
theorem fill_one (n : Nat) (zc cs : Array Value) (hz : zc.size = n) (hc : cs.size = n) : Instr.fill (fun i => some (i * n, n)) zc [(0, .agg cs)] = some cs := by
  have h := fold_set cs.toList 0 zc (by simp; omega)
  simp only [Instr.fill, Value.cells, Nat.zero_mul, hc, hz]
  rw [if_neg (by simp)]
  congr 1
  apply Array.ext'
  rw [← Array.foldl_toList, Array.toList_zipIdx]
  simpa using h
theorem Try.infoSecF : (Try.prog.info? 34).map (fun i => (i.zero, i.size, i.bytes)) = some (some (.agg (bA (zeros 64))), 64, 64) := by kernel_rfl
theorem elF : ElS Try.prog 48 34 := by
  obtain ⟨i0, hi, hz0, hz1, hz2⟩ := info_parts Try.infoSecF
  exact ⟨Try.underlying48, ⟨i0, _, hi, hz0, hz1, hz2, by show (bA (zeros 64)).size = 64; rw [bA_size, zeros_length]⟩⟩
section
variable {P : Program} {w : World} {o : Oper} {a : Act} {K : Act → World → Prop} {Q : Exit → Act → World → Prop} {S E : TypeId}
theorem wpo_buildS (T : ElS P S E) (x : Operand) (ho : o.op = .buildSlice S 1 #[(0, x)]) (s : List Nat) (hx : a.eval x = .agg (bA s)) (hs : s.length = 64)
    (h : K (a.put o.dst (.slice (some ⟨w.heap.size, 0, none⟩) 1 1)) (w.alloc (Obj.cells (bA s) E))) : Oper.wp P o a w K Q := by
  obtain ⟨i0, z0, hi, hz0, hz1, hz2, hz3⟩ := T.info
  refine wp_buildSlice S E 1 _ ho (bA s) i0 z0 T.und hi hz0 (by rw [hz1]; decide) (by rw [hz1]; decide) ?_ h
  rw [show (#[(0, x)].map fun (i, x) => (i, a.eval x)).toList = [(0, a.eval x)] by simp, hx, hz1]
  exact fill_one 64 _ _ (by simp) (by rw [bA_size, hs])
theorem wpl_copyS {ops : Array Oper} {rest : List Oper} (T : ElS P S E) (hgd : o.guard = none) (d s : Operand) (ho : o.op = .call { callee := .builtin .copy, args := #[d, s], argTypes := #[S, S] })
    (g n : Nat) (cur : Array Value) (hn : cur.size = n * 64) (hd : a.eval d = .slice (some ⟨g, 0, none⟩) n n) (hg : Blk w g E cur) (lo : Nat) (v : Value) (m : Nat) (xs : List Value) (hs : a.eval s = v) (hown : w.ownsRow lo E 64 v m xs) (hnm : n ≤ m) (h1 : ∀ u ∈ xs, u.oneCell' = true)
    (h : ∀ w', Blk w' g E (xs.take (n * 64)).toArray → Kept (· = g) w w' → wpList P ops Q rest (a.put o.dst (goInt (n : Nat))) w') : wpList P ops Q (o :: rest) a w := by
  obtain ⟨i0, z0, hi, hz0, hz1, hz2, hz3⟩ := T.info
  obtain ⟨ad, cap, rfl⟩ := own_slice hown
  have hl := hown.1
  have hlen : (xs.take (n * 64)).length = n * 64 := by simp; omega
  refine wpList_plain hgd fun K' hK => ?_
  by_cases h0 : n = 0
  · subst h0
    have hcur : cur = #[] := by apply Array.eq_empty_of_size_eq_zero; omega
    have hr : (Builtin.copy_ #[S, S] o.type #[.slice (some ⟨g, 0, none⟩) 0 0, .slice ad m cap]).run P w = .ok (goInt 0) w := by
      have hld (x : Addr) := run_loadCells_list (P := P) w x [] (by simp)
      simp only [List.length_nil] at hld
      cases ad <;> simp [Builtin.copy_, run_underlying T.und, Builtin.lenOf, Builtin.firstCells, sizeOf, typeInfo, hi, storeCells, hld]
    unfold Oper.wp execOp
    simp only [ho, resolve, invoke, builtin, Sem.run_bind, Sem.run_pure, Result.andThen_ok, List.map_toArray, List.map_cons, List.map_nil, hd, hs, hr]
    exact hK _ _ (h w (by rw [Nat.zero_mul, List.take_zero]; rw [hcur] at hg; exact hg) (Kept.refl _ _))
  · obtain ⟨g', rfl, _⟩ := ownK_form hown (by omega)
    have hsrc : ∀ j u, (xs.take (n * 64))[j]? = some u → w.cell? ((⟨g', 0, none⟩ : Addr).add j) = some u := fun j u hu => by
      have hj : j < n * 64 := by
        by_cases hj : j < (xs.take (n * 64)).length
        · omega
        · rw [List.getElem?_eq_none (by omega)] at hu; cases hu
      rw [List.getElem?_take_of_lt hj] at hu
      exact (ownK_src hown).2 _ rfl j u hu
    have hld := run_loadCells_list (P := P) w ⟨g', 0, none⟩ (xs.take (n * 64)) hsrc
    have hst := run_storeCells_at P g 0 E (xs.take (n * 64)) 0 cur w hg (by simp only [hlen]; omega) (fun u hu => h1 u (List.mem_of_mem_take hu))
    have hmin : min m n = n := by omega
    have hr : (Builtin.copy_ #[S, S] o.type #[.slice (some ⟨g, 0, none⟩) n n, .slice (some ⟨g', 0, none⟩) m cap]).run P w = .ok (goInt (n : Nat)) (w.setRow g (xs.take (n * 64)).toArray) := by
      rw [hlen] at hld
      simp [Builtin.copy_, run_underlying T.und, Builtin.lenOf, Builtin.firstCells, sizeOf, typeInfo, hi, hz1, hmin, hld]
      rw [hst, hlen]
      simp only [Nat.add_zero, List.take_zero, List.nil_append, Nat.zero_add]
      rw [List.drop_of_length_le (by simp; omega), List.append_nil]
      rfl
    unfold Oper.wp execOp
    simp only [ho, resolve, invoke, builtin, Sem.run_bind, Sem.run_pure, Result.andThen_ok, List.map_toArray, List.map_cons, List.map_nil, hd, hs, hr]
    exact hK _ _ (h _ (Blk.setRow hg) ((Kept.refl (· = g) w).setRow rfl _))
end
def apES (z : ZsR) : Int := if refS z ≠ 0 then refS z else if stS z = 2 then 17 else 0
def apOS (z : ZsR) : Int := if apES z = 0 then (z.ss.length : Int) else 0
def apSS (z : ZsR) (s : List Nat) : ZsR := if apES z = 0 then { z with ss := z.ss ++ [s] } else z
theorem zapF_push {lo A : Nat} {v v' : Value} {z : ZsR} {w w1 w' : World} {s : List Nat} (hz : ZsAt 114 34 lo w A v z) (hb : Below w.heap.size w w1) (hs : s.length = 64) (hlt : ∀ c ∈ s, c < 256) (ho : w'.ownsRow lo 34 64 v' (z.ss.length + 1) (flat z.ss ++ bvals s)) (hg : w1.grownBy w' v.ownBlock) (hv : v'.ownBlock = v.ownBlock ∨ v'.ownBlock = some w1.heap.size) :
    ZsAt 114 34 lo (w'.setCell ⟨A, 1, none⟩ v') A v' { z with ss := z.ss ++ [s] } ∧ Kept (ZF A v) w (w'.setCell ⟨A, 1, none⟩ v') ∧ (∀ g, v'.ownBlock = some g → v.ownBlock = some g ∨ w.heap.size ≤ g) ∧ Blk w' A 114 (zsA z v) := by
  have k2 := (Kept.of_below (S := ZF A v) hb).grown hg (fun g e => .inr e)
  have hA : Blk w' A 114 (zsA z v) := (hz.blk.below hb hz.blk.lt).grown hg (fun e => own_unlike hz.own hz.blk (by decide) e)
  refine ⟨⟨hA.set 1 v', ?_, hz.le⟩, k2.setCell (p := ⟨A, 1, none⟩) (.inl rfl) v', fun g hg' => ?_, hA⟩
  · have hl : (z.ss ++ [s]).length = z.ss.length + 1 := by simp
    show (w'.setCell ⟨A, 1, none⟩ v').ownsRow lo 34 64 v' (z.ss ++ [s]).length (flat (z.ss ++ [s]))
    rw [hl, flat_append, flat_one]
    exact ownK_same ho (fun g hg' => Below.heap_setCell _ _ _ _ (fun e => own_unlike ho hA (by decide) (by rw [hg']; exact congrArg some e.symm)))
  · rcases hv with h | h
    · exact .inl (h ▸ hg')
    · rw [h] at hg'
      exact .inr (by have := hb.size; injection hg' with e; omega)
set_option maxRecDepth 100000 in
set_option maxHeartbeats 2000000 in
theorem zapF {lo A : Nat} {v : Value} {z : ZsR} {w : World} (s : List Nat) (hs64 : s.length = 64) (hslt : ∀ c ∈ s, c < 256) (hz : ZsAt 114 34 lo w A v z) (hok : ZsOk z) (hlo : lo ≤ w.heap.size) :
    Calls Try.prog 75 #[.pointer (some ⟨A, 0, none⟩), .agg (bA s)] w fun e w' => e = .returned (.tuple #[.int .i64 (apOS z), .int .i64 (apES z)]) ∧ ZsTo 114 34 lo w A v (apSS z s) w' := by
  have HX := Lib.hid (Blk.new w 34 (bA s))
  have hb0 := below_alloc w (Obj.cells (bA s) 34)
  have Hb0 := Lib.hid hb0
  have HZ0 := Lib.hid (hz.below hb0)
  have Hz := Lib.hid hz
  have Hok := Lib.hid hok
  have Hlo := Lib.hid hlo
  clear hz hok hlo hb0
  by_cases h1 : refS z = 0
  · by_cases h2 : stS z = 2
    · have hE : apES z = 17 := by unfold apES; rw [if_neg (by simpa using h1), if_pos h2]
      have hO : apOS z = 0 := by unfold apOS; rw [hE]; rfl
      have hZ : apSS z s = z := by unfold apSS; rw [hE]; rfl
      rw [hE, hO, hZ]
      have H1 := Lib.hid h1
      have H2 := Lib.hid h2
      clear h1 h2 hE hO hZ
      go_enter Try.func75, Try.ntmps75
      go_upto_region 1 with fail
      generalize w.alloc (Obj.cells (bA s) 34) = w0 at *
      go_wp2_with fail
      refine (zrefF HZ0.out).mono ?_
      rintro e w' ⟨rfl, rfl⟩
      rw [H1.out]
      go_wp2_with fail
      refine (zstF HZ0.out).mono ?_
      rintro e w' ⟨rfl, hb⟩
      rw [H2.out]
      have Hb := Lib.hid (bthen Hb0.out hb)
      clear hb
      go_wp2_with fail
      go_ret2
      exact ⟨rfl, ZsTo.same Hz.out Hb.out⟩
    · have hE : apES z = 0 := by unfold apES; rw [if_neg (by simpa using h1), if_neg h2]
      have hO : apOS z = (z.ss.length : Int) := by unfold apOS; rw [hE]; rfl
      have hZ : apSS z s = { z with ss := z.ss ++ [s] } := by unfold apSS; rw [hE]; rfl
      rw [hE, hO, hZ]
      have hl : (z.ss.length : Int) ≤ 64 := Int.le_trans Hok.out.len Hok.out.size.2
      have H1 := Lib.hid h1
      have h2' : (stS z == 2) = false := by simpa using h2
      clear h1 h2 hE hO hZ
      go_enter Try.func75, Try.ntmps75
      go_upto_region 1 with fail
      generalize w.alloc (Obj.cells (bA s) 34) = w0 at *
      go_wp2_with fail
      refine (zrefF HZ0.out).mono ?_
      rintro e w' ⟨rfl, rfl⟩
      rw [H1.out]
      go_wp2_with fail
      refine (zstF HZ0.out).mono ?_
      rintro e w2 ⟨rfl, hb⟩
      have HX2 := Lib.hid (HX.out.below hb HX.out.lt)
      have HZ2 := Lib.hid (HZ0.out.below hb)
      have Hb2 := Lib.hid (bthen Hb0.out hb)
      clear hb HX HZ0 Hb0
      have hXA : ¬ ZF A v w.heap.size := fun h => by have := Hz.out.lt h; omega
      go_upto_region 6 with fail
      · refine wp_region_held (S := fun w' => Kept (ZF A v) w2 w') (by kernel_rfl) ?_
        change wpAnyH _ _ _ _ _ _ _ _ (World.drew _)
        have hS : Kept (ZF A v) w2 w2.drew := (Kept.refl _ _).drew
        have hB : Below w2.heap.size w2 w2.drew := (Below.refl _ _).drew
        generalize w2.drew = wd at *
        refine takeH hS (i := 0) (d := 15) (v := .pointer (some ⟨A, 0, none⟩)) rfl rfl (by kernel_rfl) (by kernel_rfl) (by kernel_rfl) (fun _ _ _ h => h) (Or.inl ⟨by kernel_rfl, fun w' hw' => by kernel_rfl⟩) ?_
        refine takeH hS (i := 1) (d := 16) (v := .pointer (some ⟨A, 0, none⟩)) rfl rfl (by kernel_rfl) (by kernel_rfl) (by kernel_rfl) (fun _ _ _ h => h) (Or.inl ⟨by kernel_rfl, fun w' hw' => by kernel_rfl⟩) ?_
        refine takeH hS (i := 2) (d := 17) (v := .pointer (some ⟨A, 0, none⟩)) rfl rfl (by kernel_rfl) (by kernel_rfl) (by kernel_rfl) (fun _ _ _ h => h) (Or.inl ⟨by kernel_rfl, fun w' hw' => by kernel_rfl⟩) ?_
        refine takeH hS (i := 3) (d := 18) (v := .pointer (some ⟨A, 1, none⟩)) rfl rfl (by kernel_rfl) (by kernel_rfl) (by kernel_rfl) (fun _ _ _ h => h) (Or.inl ⟨by kernel_rfl, fun w' hw' => by kernel_rfl⟩) ?_
        try go_frame
        refine takeH hS (i := 5) (d := 20) (v := .agg (bA s)) rfl rfl (by kernel_rfl) (by kernel_rfl) (by kernel_rfl) (fun _ _ _ h => h) (Or.inl ⟨by kernel_rfl, fun w' hw' => by exact exec_load _ rfl (w.heap.size) rfl (HX2.out.kept hw' hXA) Try.underlying34 rfl (info_sec hs64)⟩) ?_
        try go_frame
        refine nextH2 (i := 4) (k := 6) rfl rfl (by kernel_rfl) (by kernel_rfl) (by kernel_rfl) (fun K' hK => ?_) (fun K' hK => ?_)
        · have cW := (HZ2.out.blk.below hB HZ2.out.blk.lt).cell 1
          rw [show (zsA z v)[1]? = some v from rfl] at cW
          go_wp2_with fail
          refine hK.out _ _ ⟨hS, ?_⟩
          clear hK K' cW
          try go_frame
          refine nextH (i := 6) rfl (by kernel_rfl) (by kernel_rfl) (fun K' hK => ?_)
          refine wpo_buildS elF (.tmp 20) rfl s rfl hs64 ?_
          have hB0 : Below w2.heap.size w2 (wd.alloc (Obj.cells (bA s) 34)) := bel_next hB (below_alloc _ _)
          have hQ := Blk.new wd 34 (bA s)
          refine hK.out _ _ ⟨Kept.of_below hB0, ?_⟩
          clear hK K' hB hS
          generalize wd.alloc (Obj.cells (bA s) 34) = wq at *
          generalize wd.heap.size = q0 at *
          have hS : Kept (ZF A v) w2 wq := Kept.of_below hB0
          have hB := hB0
          clear hB0
          try go_frame
          refine nextH (i := 7) rfl (by kernel_rfl) (by kernel_rfl) (fun K' hK => ?_)
          refine wpo_appendS elF (.tmp 19) (.tmp 21) rfl lo v z.ss.length (flat z.ss) rfl (ownK_below HZ2.out.own hB) (some ⟨q0, 0, none⟩) 1 1 (bvals s) rfl (by rw [bvals_length, hs64]) (fun e => by cases e) (fun ad e j u hu => by cases e; have h := hQ.cell j; rw [show (⟨q0, 0, none⟩ : Addr).add j = ⟨q0, j, none⟩ by have := Addr.add_mid q0 0 j; rwa [Nat.zero_add] at this, h]; simpa [bA] using hu) (bvals_one s) (by omega) (by have := Hlo.out; have := hB.size; have := Hb2.out.size; omega) ?_
          intro v3 w7 hown hgr hv3
          have hA := (HZ2.out.blk.below hB HZ2.out.blk.lt).grown hgr (fun e => own_unlike (ownK_below HZ2.out.own hB) (HZ2.out.blk.below hB HZ2.out.blk.lt) (by decide) e)
          obtain ⟨a3, c3, rfl⟩ := own_slice hown
          have HP := Lib.hid (zapF_push HZ2.out hB hs64 hslt hown hgr hv3)
          have c1 : w7.cell? ⟨A, 1, none⟩ = some v := (hA.cell 1).trans rfl
          have f1 := hA.frozen 1
          have hS7 : Kept (ZF A v) w2 w7 := (Kept.of_below (S := ZF A v) hB).grown hgr (fun g e => .inr e)
          have hS8 : Kept (ZF A v) w2 (w7.setCell ⟨A, 1, none⟩ (.slice a3 (z.ss.length + 1) c3)) := hS7.setCell (p := ⟨A, 1, none⟩) (.inl rfl) _
          refine hK.out _ _ ⟨hS7, ?_⟩
          clear hK K' hown hgr hv3 hA hB hS hQ
          try go_frame
          refine takeH hS7 (i := 8) (d := 23) (v := .pointer (some ⟨A, 0, none⟩)) rfl rfl (by kernel_rfl) (by kernel_rfl) (by kernel_rfl) (fun _ _ _ h => h) (Or.inl ⟨by kernel_rfl, fun w' hw' => by kernel_rfl⟩) ?_
          refine takeH hS7 (i := 9) (d := 24) (v := .pointer (some ⟨A, 1, none⟩)) rfl rfl (by kernel_rfl) (by kernel_rfl) (by kernel_rfl) (fun _ _ _ h => h) (Or.inl ⟨by kernel_rfl, fun w' hw' => by kernel_rfl⟩) ?_
          try go_frame
          refine nextH (i := 10) rfl (by kernel_rfl) (by kernel_rfl) (fun K' hK => ?_)
          go_wp2_with fail
          refine hK.out _ _ ⟨hS8, ?_⟩
          clear hK K' c1 f1 hS7 hS8
          refine wpAnyH_done (by kernel_rfl) ?_ _
          go_wp2_with fail
          refine (zlenF HP.out.1).mono ?_
          rintro e w9 ⟨rfl, rfl⟩
          simp only [List.length_append, List.length_singleton]
          go_wp2_with fail
          go_ret2
          exact ⟨by go_num, ZsTo.after Hb2.out ⟨_, HP.out.1, HP.out.2.1, HP.out.2.2.1⟩⟩
        · refine wpo_buildS elF (.tmp 20) rfl s rfl hs64 ?_
          have hB0 : Below w2.heap.size w2 (wd.alloc (Obj.cells (bA s) 34)) := bel_next hB (below_alloc _ _)
          have hQ := Blk.new wd 34 (bA s)
          refine hK.out _ _ ⟨Kept.of_below hB0, ?_⟩
          clear hK K' hB hS
          generalize wd.alloc (Obj.cells (bA s) 34) = wq at *
          generalize wd.heap.size = q0 at *
          have hS : Kept (ZF A v) w2 wq := Kept.of_below hB0
          have hB := hB0
          clear hB0
          try go_frame
          refine nextH (i := 4) rfl (by kernel_rfl) (by kernel_rfl) (fun K' hK => ?_)
          have cW := (HZ2.out.blk.below hB HZ2.out.blk.lt).cell 1
          rw [show (zsA z v)[1]? = some v from rfl] at cW
          go_wp2_with fail
          refine hK.out _ _ ⟨hS, ?_⟩
          clear hK K' cW
          try go_frame
          refine nextH (i := 7) rfl (by kernel_rfl) (by kernel_rfl) (fun K' hK => ?_)
          refine wpo_appendS elF (.tmp 19) (.tmp 21) rfl lo v z.ss.length (flat z.ss) rfl (ownK_below HZ2.out.own hB) (some ⟨q0, 0, none⟩) 1 1 (bvals s) rfl (by rw [bvals_length, hs64]) (fun e => by cases e) (fun ad e j u hu => by cases e; have h := hQ.cell j; rw [show (⟨q0, 0, none⟩ : Addr).add j = ⟨q0, j, none⟩ by have := Addr.add_mid q0 0 j; rwa [Nat.zero_add] at this, h]; simpa [bA] using hu) (bvals_one s) (by omega) (by have := Hlo.out; have := hB.size; have := Hb2.out.size; omega) ?_
          intro v3 w7 hown hgr hv3
          have hA := (HZ2.out.blk.below hB HZ2.out.blk.lt).grown hgr (fun e => own_unlike (ownK_below HZ2.out.own hB) (HZ2.out.blk.below hB HZ2.out.blk.lt) (by decide) e)
          obtain ⟨a3, c3, rfl⟩ := own_slice hown
          have HP := Lib.hid (zapF_push HZ2.out hB hs64 hslt hown hgr hv3)
          have c1 : w7.cell? ⟨A, 1, none⟩ = some v := (hA.cell 1).trans rfl
          have f1 := hA.frozen 1
          have hS7 : Kept (ZF A v) w2 w7 := (Kept.of_below (S := ZF A v) hB).grown hgr (fun g e => .inr e)
          have hS8 : Kept (ZF A v) w2 (w7.setCell ⟨A, 1, none⟩ (.slice a3 (z.ss.length + 1) c3)) := hS7.setCell (p := ⟨A, 1, none⟩) (.inl rfl) _
          refine hK.out _ _ ⟨hS7, ?_⟩
          clear hK K' hown hgr hv3 hA hB hS hQ
          try go_frame
          refine takeH hS7 (i := 8) (d := 23) (v := .pointer (some ⟨A, 0, none⟩)) rfl rfl (by kernel_rfl) (by kernel_rfl) (by kernel_rfl) (fun _ _ _ h => h) (Or.inl ⟨by kernel_rfl, fun w' hw' => by kernel_rfl⟩) ?_
          refine takeH hS7 (i := 9) (d := 24) (v := .pointer (some ⟨A, 1, none⟩)) rfl rfl (by kernel_rfl) (by kernel_rfl) (by kernel_rfl) (fun _ _ _ h => h) (Or.inl ⟨by kernel_rfl, fun w' hw' => by kernel_rfl⟩) ?_
          try go_frame
          refine nextH (i := 10) rfl (by kernel_rfl) (by kernel_rfl) (fun K' hK => ?_)
          go_wp2_with fail
          refine hK.out _ _ ⟨hS8, ?_⟩
          clear hK K' c1 f1 hS7 hS8
          refine wpAnyH_done (by kernel_rfl) ?_ _
          go_wp2_with fail
          refine (zlenF HP.out.1).mono ?_
          rintro e w9 ⟨rfl, rfl⟩
          simp only [List.length_append, List.length_singleton]
          go_wp2_with fail
          go_ret2
          exact ⟨by go_num, ZsTo.after Hb2.out ⟨_, HP.out.1, HP.out.2.1, HP.out.2.2.1⟩⟩
  · have hE : apES z = refS z := by unfold apES; rw [if_pos (by simpa using h1)]
    have hO : apOS z = 0 := by unfold apOS; rw [if_neg (by rw [hE]; exact h1)]
    have hZ : apSS z s = z := by unfold apSS; rw [if_neg (by rw [hE]; exact h1)]
    rw [hE, hO, hZ]
    have h1' : (refS z != 0) = true := by simpa using h1
    clear h1 hE hO hZ
    go_enter Try.func75, Try.ntmps75
    go_upto_region 1 with fail
    generalize w.alloc (Obj.cells (bA s) 34) = w0 at *
    go_wp2_with fail
    refine (zrefF HZ0.out).mono ?_
    rintro e w' ⟨rfl, rfl⟩
    go_wp2_with fail
    go_ret2
    exact ⟨rfl, ZsTo.same Hz.out Hb0.out⟩
def rdES (z : ZsR) (off : Int) : Int := if z.failed = 4 then 32 else if holS z off = true then 0 else 31
def rdVS (z : ZsR) (off : Int) : List Nat := if rdES z off = 0 then z.ss.getD off.toNat [] else zeros 64
theorem own_range {w : World} {lo n cap g : Nat} {ss : List (List Nat)} (h : w.ownsRow lo 34 64 (.slice (some ⟨g, 0, none⟩) n cap) n (flat ss)) (hn : ss.length = n) (hw : ∀ s ∈ ss, s.length = 64) (i : Nat) (hi : i < n) : w.rangeAt g (i * 64) (bvals (ss.getD i [])) := by
  intro j u hu
  have hi' : i < ss.length := by omega
  have hs : (ss.getD i []).length = 64 := by
    rw [List.getD_eq_getElem?_getD, List.getElem?_eq_getElem hi']
    exact hw _ (List.getElem_mem hi')
  have hj : j < 64 := by
    by_cases hj : j < (bvals (ss.getD i [])).length
    · rw [bvals_length, hs] at hj; exact hj
    · rw [List.getElem?_eq_none (by omega)] at hu; cases hu
  have hc := h.cellAt (i * 64 + j) (by omega)
  rw [hc, flat_at hw i hi' j hj]
  exact hu
theorem getD_64 {ss : List (List Nat)} (hw : ∀ s ∈ ss, s.length = 64) (i : Nat) (hi : i < ss.length) : (ss.getD i []).length = 64 := by
  rw [List.getD_eq_getElem?_getD, List.getElem?_eq_getElem hi]
  exact hw _ (List.getElem_mem hi)
theorem zero_secF (w : World) : (zeroValue 34).run Try.prog w = .ok (.agg (bA (zeros 64))) w := by kernel_rfl
set_option maxRecDepth 100000 in
set_option maxHeartbeats 2000000 in
theorem zrdF {lo A : Nat} {v : Value} {z : ZsR} {w : World} (off : Int) (hz : ZsAt 114 34 lo w A v z) (hok : ZsOk z) :
    Calls Try.prog 78 #[.pointer (some ⟨A, 0, none⟩), .int .i64 off] w fun e w' => e = .returned (.tuple #[.agg (bA (rdVS z off)), .int .i64 (rdES z off)]) ∧ Below w.heap.size w w' := by
  have hb0 := bthen (below_alloc w (Obj.cells (bA (zeros 64)) 34)) (below_alloc _ (Obj.cells (bA (zeros 64)) 34))
  have x0 := (Blk.new w 34 (bA (zeros 64))).alloc (Obj.cells (bA (zeros 64)) 34)
  have x1 := Blk.new (w.alloc (Obj.cells (bA (zeros 64)) 34)) 34 (bA (zeros 64))
  rw [show (w.alloc (Obj.cells (bA (zeros 64)) 34)).heap.size = w.heap.size + 1 by simp] at x1
  have HZ0 := Lib.hid (hz.below hb0)
  have HB0 := Lib.hid hb0
  have X0 := Lib.hid x0
  have X1 := Lib.hid x1
  have Hok := Lib.hid hok
  have hz64 := zero_secF
  clear hz hok hb0 x0 x1
  by_cases hf : z.failed = 4
  · have hE : rdES z off = 32 := by unfold rdES; rw [if_pos hf]
    have hV : rdVS z off = zeros 64 := by unfold rdVS; rw [hE]; rfl
    rw [hE, hV]
    have Hf := Lib.hid hf
    clear hf hE hV
    go_enter Try.func78, Try.ntmps78
    go_upto_region 2 with fail
    clear hz64
    generalize (w.alloc (Obj.cells (bA (zeros 64)) 34)).alloc (Obj.cells (bA (zeros 64)) 34) = w0 at *
    have c4 : w0.cell? ⟨A, 4, none⟩ = some (.int .i64 4) := (HZ0.out.blk.cell 4).trans (congrArg (fun t => some (Value.int .i64 t)) Hf.out)
    go_wp2_with (first | (refine wpl_load rfl _ rfl (w.heap.size + 1) rfl _ _ _ (X1.out) Try.underlying34 rfl (info_sec (zeros_length 64)) ?_; go_frame) | (refine wpl_store rfl _ _ rfl (w.heap.size) (bA (zeros 64)) rfl rfl _ _ X0.out (info_sec (zeros_length 64)) rfl (bA_one _) ?_; intro w9 hSg hKg; have HSg := Lib.hid hSg; have HKg := Lib.hid hKg; clear hSg hKg; go_frame))
    exact bodyPost_ret (v := .tuple #[.agg (bA (zeros 64)), .int .i64 32]) (results_cell_slot Try.results78 _ _ (w.heap.size) 34 _ _ _ rfl rfl HSg.out Try.underlying34 rfl (info_sec (zeros_length 64))) rfl ⟨rfl, bkept HB0.out (Nat.le_refl _) HKg.out (fun i hi h => by omega)⟩
  · have hd : (z.failed == 4) = false := by simpa using hf
    cases hh : holS z off with
    | false =>
      have hE : rdES z off = 31 := by unfold rdES; rw [if_neg hf, if_neg (by rw [hh]; decide)]
      have hV : rdVS z off = zeros 64 := by unfold rdVS; rw [hE]; rfl
      rw [hE, hV]
      have Hh := Lib.hid hh
      clear hf hE hV hh
      go_enter Try.func78, Try.ntmps78
      go_upto_region 2 with fail
      clear hz64
      generalize (w.alloc (Obj.cells (bA (zeros 64)) 34)).alloc (Obj.cells (bA (zeros 64)) 34) = w0 at *
      have c4 : w0.cell? ⟨A, 4, none⟩ = some (.int .i64 z.failed) := (HZ0.out.blk.cell 4).trans rfl
      go_wp2_with fail
      refine (zholF off HZ0.out).mono ?_
      rintro e w' ⟨rfl, rfl⟩
      rw [Hh.out]
      go_wp2_with (first | (refine wpl_load rfl _ rfl (w.heap.size + 1) rfl _ _ _ (X1.out) Try.underlying34 rfl (info_sec (zeros_length 64)) ?_; go_frame) | (refine wpl_store rfl _ _ rfl (w.heap.size) (bA (zeros 64)) rfl rfl _ _ X0.out (info_sec (zeros_length 64)) rfl (bA_one _) ?_; intro w9 hSg hKg; have HSg := Lib.hid hSg; have HKg := Lib.hid hKg; clear hSg hKg; go_frame))
      exact bodyPost_ret (v := .tuple #[.agg (bA (zeros 64)), .int .i64 31]) (results_cell_slot Try.results78 _ _ (w.heap.size) 34 _ _ _ rfl rfl HSg.out Try.underlying34 rfl (info_sec (zeros_length 64))) rfl ⟨rfl, bkept HB0.out (Nat.le_refl _) HKg.out (fun i hi h => by omega)⟩
    | true =>
      have hE : rdES z off = 0 := by unfold rdES; rw [if_neg hf, if_pos hh]
      have hV : rdVS z off = z.ss.getD off.toNat [] := by unfold rdVS; rw [hE]; rfl
      rw [hE, hV]
      have Hh := Lib.hid hh
      obtain ⟨o1, o2⟩ : 0 ≤ off ∧ off < (z.ss.length : Int) := by unfold holS at hh; simpa using hh
      obtain ⟨i, rfl⟩ := Int.eq_ofNat_of_zero_le o1
      rw [Int.toNat_natCast]
      have hi : i < z.ss.length := by omega
      have hl : (z.ss.length : Int) ≤ 64 := Int.le_trans Hok.out.len Hok.out.size.2
      have h64 := getD_64 Hok.out.w64 i hi
      have H64 := Lib.hid h64
      generalize hR : z.ss.getD i [] = R at *
      have HRe := Lib.hid hR
      clear hf hE hV hh h64 hR
      go_enter Try.func78, Try.ntmps78
      go_upto_region 2 with fail
      clear hz64
      generalize (w.alloc (Obj.cells (bA (zeros 64)) 34)).alloc (Obj.cells (bA (zeros 64)) 34) = w0 at *
      have c4 : w0.cell? ⟨A, 4, none⟩ = some (.int .i64 z.failed) := (HZ0.out.blk.cell 4).trans rfl
      go_wp2_with fail
      refine (zholF (i : Int) HZ0.out).mono ?_
      rintro e w' ⟨rfl, rfl⟩
      rw [Hh.out]
      obtain ⟨a, cap, rfl, hc1, hc2⟩ := HZ0.out.slice
      unfold maxLen at hc2
      obtain ⟨g, rfl, _, _⟩ := ownK_form HZ0.out.own (by omega)
      have hr := own_range HZ0.out.own rfl Hok.out.w64 i hi
      rw [HRe.out] at hr
      have HR := Lib.hid hr
      have c1 : w0.cell? ⟨A, 1, none⟩ = some (.slice (some ⟨g, 0, none⟩) z.ss.length cap) := (HZ0.out.blk.cell 1).trans rfl
      clear hr
      go_wp2_with (first | (refine wpl_load_mid (by rfl) 34 _ rfl g (i * 64) rfl R _ HR.out Try.underlying34 rfl (by rw [bvals_length]; exact (info_sec H64.out).trans (by rw [bA_size])) ?_; go_frame) | (refine wpl_store rfl _ _ rfl (w.heap.size) (bA (R)) rfl rfl _ _ X0.out (info_sec H64.out) (by rw [bA_size, bA_size, zeros_length, H64.out]) (bA_one _) ?_; intro w9 hSg hKg; have HSg := Lib.hid hSg; have HKg := Lib.hid hKg; clear hSg hKg; go_frame))
      exact bodyPost_ret (v := .tuple #[.agg (bA (R)), .int .i64 0]) (results_cell_slot Try.results78 _ _ (w.heap.size) 34 _ _ _ rfl rfl HSg.out Try.underlying34 rfl (info_sec H64.out)) rfl ⟨rfl, bkept HB0.out (Nat.le_refl _) HKg.out (fun i hi h => by omega)⟩
end Go.Proofs.Ytajkajgnjcnolaa

namespace Go.Proofs.Ytajkajgnjcnolaa
open Go.RowKit
set_option linter.unusedVariables false
set_option linter.unnecessarySimpa false
set_option linter.unusedSimpArgs false
theorem run_makeS {P : Program} {S E : TypeId} (T : ElS P S E) (w : World) (n : Nat) (h : n ≤ 100000000000) : ∃ cs : Array Value, cs.size = n * 64 ∧ (Instr.makeSlice S (.int .i64 n) (.int .i64 n)).run P w = .ok (.slice (some ⟨w.heap.size, 0, none⟩) n n) (w.alloc (Obj.cells cs E)) := by
  obtain ⟨i0, z0, hi, hz0, hz1, hz2, hz3⟩ := T.info
  have hr := run_make (P := P) w S E i0 z0 T.und hi hz0 .i64 .i64 n n (by omega) (Int.le_refl _) (by rw [hz2]; omega) (by omega)
  rw [Int.toNat_natCast, hz1] at hr
  exact ⟨_, by simp [size_madeCells], hr⟩
def keepS (z : ZsR) (k : Int) : Nat := (z.safe + min (max k 0) ((z.ss.length : Int) - z.safe)).toNat
def crS (z : ZsR) (k : Int) : ZsR := { z with ss := z.ss.take (keepS z k), safe := (keepS z k : Int) }
theorem keepS_bd {z : ZsR} (hok : ZsOk z) (k : Int) : (keepS z k : Int) = z.safe + min (max k 0) ((z.ss.length : Int) - z.safe) ∧ keepS z k ≤ z.ss.length ∧ z.safe ≤ (keepS z k : Int) := by
  obtain ⟨h1, h2⟩ := hok.safe
  unfold keepS
  omega
theorem zcrF_push {lo A : Nat} {v : Value} {z : ZsR} {w : World} {w3 : World} {g n : Nat} {ys : List (List Nat)} (hz : ZsAt 114 34 lo w A v z) (hb : Below w.heap.size w w3) (hg : w.heap.size ≤ g) (hlo : lo ≤ w.heap.size) (hw : ∀ s ∈ ys, s.length = 64) (B : Blk w3 g 34 (flat ys).toArray) (hn : ys.length = n) (hn2 : n ≤ 1000000) :
    ZsAt 114 34 lo (w3.setCell ⟨A, 1, none⟩ (.slice (some ⟨g, 0, none⟩) n n)) A (.slice (some ⟨g, 0, none⟩) n n) { z with ss := ys } ∧ Kept (ZF A v) w (w3.setCell ⟨A, 1, none⟩ (.slice (some ⟨g, 0, none⟩) n n)) ∧ ∀ k, (Value.slice (some ⟨g, 0, none⟩) n n).ownBlock = some k → v.ownBlock = some k ∨ w.heap.size ≤ k := by
  have hl := hz.blk.lt
  refine ⟨⟨(hz.blk.below hb hl).set 1 _, ?_, hz.le⟩, (Kept.of_below hb).setCell (p := ⟨A, 1, none⟩) (.inl rfl) _, fun k hk => .inr (by simp [Value.ownBlock] at hk; omega)⟩
  subst hn
  have hfl := flat_length hw
  refine ⟨hfl, .inr ⟨g, ys.length, (flat ys).toArray, rfl, by omega, B.far (by simp; omega) _, Nat.le_refl _, by unfold maxLen; omega, by simpa using hfl, by rw [← hfl]; simp⟩⟩
set_option maxRecDepth 100000 in
set_option maxHeartbeats 2000000 in
theorem zcrF {lo A : Nat} {v : Value} {z : ZsR} {w : World} (k : Int) (hz : ZsAt 114 34 lo w A v z) (hok : ZsOk z) (hlo : lo ≤ w.heap.size) : Calls Try.prog 83 #[.pointer (some ⟨A, 0, none⟩), .int .i64 k] w fun e w' => e = .returned (.tuple #[]) ∧ ZsTo 114 34 lo w A v (crS z k) w' := by
  have Hz := Lib.hid hz
  have Hok := Lib.hid hok
  have Hb := Lib.hid hz.blk
  obtain ⟨s1, s2⟩ := hok.safe
  have l1 : (z.ss.length : Int) ≤ 64 := Int.le_trans hok.len hok.size.2
  obtain ⟨n1, n2, n3⟩ := keepS_bd hok k
  have hK : min (max k 0) ((z.ss.length : Int) - z.safe) = (keepS z k : Int) - z.safe := by omega
  have Hn1 := Lib.hid n1
  unfold crS
  clear hz hok n1
  generalize keepS z k = n at *
  obtain ⟨K, hKe⟩ : ∃ K, K = (n : Int) - z.safe := ⟨_, rfl⟩
  rw [← hKe] at hK
  have HKe := Lib.hid hKe
  clear hKe
  go_enter Try.func83, Try.ntmps83
  go_upto_region 0 with fail
  refine wp_region_held (S := fun w' => Below w.heap.size w w') (by kernel_rfl) ?_
  change wpAnyH _ _ _ _ _ _ _ _ (World.drew _)
  have hS : Below w.heap.size w w.drew := (Below.refl _ _).drew
  refine takeH hS (i := 0) (d := 5) (v := .int .i64 (k)) rfl rfl (by kernel_rfl) (by kernel_rfl) (by kernel_rfl) (fun _ _ _ h => h) (Or.inl ⟨by kernel_rfl, fun w' hw' => by kernel_rfl⟩) ?_
  refine takeH hS (i := 1) (d := 6) (v := .int .i64 (max k 0)) rfl rfl (by kernel_rfl) (by kernel_rfl) (by kernel_rfl) (fun _ _ _ h => h) (Or.inl ⟨by kernel_rfl, fun w' hw' => by exact exec_max _ _ _ rfl (k) (0) (max k 0) rfl rfl (rfl)⟩) ?_
  refine takeH hS (i := 2) (d := 7) (v := .pointer (some ⟨A, 0, none⟩)) rfl rfl (by kernel_rfl) (by kernel_rfl) (by kernel_rfl) (fun _ _ _ h => h) (Or.inl ⟨by kernel_rfl, fun w' hw' => by kernel_rfl⟩) ?_
  refine takeH hS (i := 4) (d := 9) (v := .pointer (some ⟨A, 0, none⟩)) rfl rfl (by kernel_rfl) (by kernel_rfl) (by kernel_rfl) (fun _ _ _ h => h) (Or.inl ⟨by kernel_rfl, fun w' hw' => by kernel_rfl⟩) ?_
  try go_frame
  refine takeH hS (i := 5) (d := 10) (v := .pointer (some ⟨A, 0, none⟩)) rfl rfl (by kernel_rfl) (by kernel_rfl) (by kernel_rfl) (fun _ _ _ h => h) (Or.inl ⟨by kernel_rfl, fun w' hw' => by kernel_rfl⟩) ?_
  refine takeH hS (i := 6) (d := 11) (v := .pointer (some ⟨A, 2, none⟩)) rfl rfl (by kernel_rfl) (by kernel_rfl) (by kernel_rfl) (fun _ _ _ h => h) (Or.inl ⟨by kernel_rfl, fun w' hw' => by kernel_rfl⟩) ?_
  refine takeH hS (i := 7) (d := 12) (v := .int .i64 (z.safe)) rfl rfl (by kernel_rfl) (by kernel_rfl) (by kernel_rfl) (fun _ _ _ h => h) (Or.inl ⟨by kernel_rfl, fun w' hw' => by exact exec_cell _ rfl ⟨A, 2, none⟩ rfl _ Try.underlying3 (((Hb.out.below hw' Hb.out.lt).cell 2).trans (rfl))⟩) ?_
  try go_frame
  refine nextH (i := 3) rfl (by kernel_rfl) (by kernel_rfl) (fun K' hK => ?_)
  go_wp2_with fail
  refine (zlenF (Hz.out.below hS)).mono ?_
  rintro en wc1 ⟨rfl, hb0⟩
  have hb := below_eqS hb0
  clear hb0
  have hS1 : Below w.heap.size w wc1 := bel_next hS hb
  refine hK.out _ _ ⟨hS1, ?_⟩
  clear hK K' hb hS
  refine takeH hS1 (i := 8) (d := 13) (v := .int .i64 ((z.ss.length : Int) - z.safe)) rfl rfl (by kernel_rfl) (by kernel_rfl) (by kernel_rfl) (fun _ _ _ h => h) (Or.inl ⟨by kernel_rfl, fun w' hw' => by exact exec_sub _ _ rfl ((z.ss.length : Nat)) (z.safe) ((z.ss.length : Int) - z.safe) rfl rfl (rfl) (by omega)⟩) ?_
  refine takeH hS1 (i := 9) (d := 14) (v := .int .i64 (K)) rfl rfl (by kernel_rfl) (by kernel_rfl) (by kernel_rfl) (fun _ _ _ h => h) (Or.inl ⟨by kernel_rfl, fun w' hw' => by exact exec_min _ _ _ rfl (max k 0) ((z.ss.length : Int) - z.safe) (K) rfl rfl (hK)⟩) ?_
  refine takeH hS1 (i := 10) (d := 1) (v := .int .i64 (K)) rfl rfl (by kernel_rfl) (by kernel_rfl) (by kernel_rfl) (fun _ _ _ h => h) (Or.inl ⟨by kernel_rfl, fun w' hw' => by kernel_rfl⟩) ?_
  refine wpAnyH_done (by kernel_rfl) ?_ _
  try go_frame
  have hz1 := Hz.out.below hS1
  have HS := Lib.hid hS1
  obtain ⟨a, cap, hv, hc1, hc2⟩ := hz1.slice
  subst hv
  have c1 : wc1.cell? ⟨A, 1, none⟩ = some (.slice a z.ss.length cap) := (hz1.blk.cell 1).trans rfl
  have c2 : wc1.cell? ⟨A, 2, none⟩ = some (.int .i64 z.safe) := (hz1.blk.cell 2).trans rfl
  have hsum : IntKind.i64.wrap (z.safe + K) = (n : Int) := by rw [HKe.out, show z.safe + ((n : Int) - z.safe) = (n : Int) by omega]; exact IntWalk.i64_in _ (by omega)
  have Hz1 := Lib.hid hz1
  clear hz1 hS1 hK
  obtain ⟨cs, hcs, hmk⟩ := run_makeS elF wc1 n (by omega)
  have hl : (z.ss.take n).length = n := by simp; omega
  have Hl := Lib.hid hl
  have Hlo := Lib.hid hlo
  clear hl hlo
  have hw2 := bthen HS.out (below_alloc wc1 (Obj.cells cs 34))
  have HW2 := Lib.hid hw2
  have HB2 := Lib.hid (Blk.new wc1 34 cs)
  have HO2 := Lib.hid (ownK_below Hz1.out.own (below_alloc wc1 (Obj.cells cs 34)))
  have hgw : w.heap.size ≤ wc1.heap.size := HS.out.size
  clear hw2
  go_upto_region 2 with fail
  clear hmk c1 c2 hsum
  have c1 := (Hz1.out.blk.below (below_alloc wc1 (Obj.cells cs 34)) Hz1.out.blk.lt).cell 1
  rw [show (zsA z (.slice a z.ss.length cap))[1]? = some (.slice a z.ss.length cap) from rfl] at c1
  generalize wc1.alloc (Obj.cells cs 34) = w2 at *
  generalize wc1.heap.size = g at *
  go_wp2_with (refine wpl_copyS elF rfl (.tmp 22) (.tmp 26) rfl g n cs hcs rfl HB2.out lo _ _ _ rfl HO2.out n2 (flat_ones _) ?_; intro w3 hB3 hk3; rw [flat_take Hok.out.w64 n] at hB3; have hb3 : Below g w2 w3 := hk3.below (Nat.le_of_lt HB2.out.lt) (fun k hk e => by omega); have hA3 := Hz.out.blk.below (HW2.out.trans (hb3.mono hgw)) Hz.out.blk.lt; have c1b : w3.cell? ⟨A, 1, none⟩ = some (.slice a z.ss.length cap) := (hA3.cell 1).trans rfl; have f1b := hA3.frozen 1; have HP := Lib.hid (zcrF_push Hz.out (HW2.out.trans (hb3.mono hgw)) hgw Hlo.out (fun s hs => Hok.out.w64 s (List.mem_of_mem_take hs)) hB3 Hl.out (by omega)); clear hA3 hB3 hb3 hk3; go_frame)
  refine (zflF HP.out.1).mono ?_
  rintro e w5 ⟨rfl, hT⟩
  have hT2 := ZsTo.step HP.out.2.1 HP.out.2.2 hT
  rw [show flS ({ z with ss := z.ss.take n } : ZsR) = { z with ss := z.ss.take n, safe := (n : Int) } by unfold flS; rw [show (({ z with ss := z.ss.take n } : ZsR).ss.length) = n from Hl.out]] at hT2
  have HT2 := Lib.hid hT2
  clear hT hT2
  go_wp2_with fail
  go_end0
  exact ⟨rfl, HT2.out⟩
end Go.Proofs.Ytajkajgnjcnolaa

namespace Go.Proofs.Ytajkajgnjcnolaa
open Go.RowKit
set_option linter.unusedVariables false
set_option linter.unnecessarySimpa false
set_option linter.unusedSimpArgs false
end Go.Proofs.Ytajkajgnjcnolaa

