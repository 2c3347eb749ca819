/-
  The walk of FrameEncodes.
-/
import Derived.Test.YtlkghdgomfcfkaaFrameK
namespace Go.Proofs.Ytlkghdgomfcfkaa
open Go.RowKit CrcM
set_option linter.unusedVariables false
set_option linter.unnecessarySimpa false
set_option linter.unusedSimpArgs false

/-- A store into a block that was just made, its number told. -/
theorem wpl_store_newI {P : Program} {w : World} {ops : Array Oper} {rest : List Oper} {o : Oper} {a : Act} {Q : Exit → Act → World → Prop} (g : Nat) (hgd : o.guard = none) {ty : TypeId} (x y : Operand) (ho : o.op = .store ty x y) (cs : Array Value) (w0 : World) (hg : w0.heap.size = g) (t : TypeId) (old : Array Value) (hw : w = w0.alloc (.cells old t)) (hx : a.eval x = .pointer (some ⟨g, 0, none⟩)) (hy : a.eval y = .agg cs)
    (hi : (P.info? ty).map (·.size) = some cs.size) (hold : old.size = cs.size) (h1 : cs.all (·.oneCell') = true)
    (h : wpList P ops Q rest (a.put o.dst undef) (w0.alloc (.cells cs t))) : wpList P ops Q (o :: rest) a w := by
  subst hg
  exact wpl_store_new hgd x y ho cs w0 t old hw hx hy hi hold h1 h

theorem rbytes_any (f : FrR) (w : World) (hl : f.b.length = 44) (hb : ∀ c ∈ f.b, c < 256) (hr : rightB f = true) :
    Calls Try.prog 16 #[.agg (frA f)] w fun en w' => en = .returned (.agg (bA (sec f))) ∧ Below w.heap.size w w' := by
  obtain ⟨⟨h1, h2⟩, ⟨h3, h4⟩, ⟨h5, h6⟩, ⟨h7, h8⟩, h9, h10⟩ := (right_iff f).1 hr
  obtain ⟨k, z, o, e, s, b⟩ := f
  simp only at h1 h2 h3 h4 h5 h6 h7 h8 h9 h10 hl hb
  obtain ⟨k, rfl⟩ := Int.eq_ofNat_of_zero_le (a := k) (by omega)
  obtain ⟨z, rfl⟩ := Int.eq_ofNat_of_zero_le h3
  obtain ⟨o, rfl⟩ := Int.eq_ofNat_of_zero_le h5
  obtain ⟨e, rfl⟩ := Int.eq_ofNat_of_zero_le (a := e) (by omega)
  obtain ⟨s, rfl⟩ := Int.eq_ofNat_of_zero_le h9
  exact rbytes_nat k z o e s b w hl hb (by omega) (by omega) (by omega) (by omega) (by omega)

set_option maxRecDepth 100000 in
set_option maxHeartbeats 4000000 in
theorem walkEncodes_bad (f : FrR) (zn of : Int) (w : World) (hl : f.b.length = 44) (hb : ∀ c ∈ f.b, c < 256) (hr : rightB f = false) :
    Calls Try.prog 3 #[.agg (frA f), .int .i64 zn, .int .i64 of] w fun e w' => e = .returned (.bool true) ∧ Below w.heap.size w w' := by
  have HL := Lib.hid hl
  have Hb := Lib.hid hb
  have Hr := Lib.hid hr
  have hz1 := zero_tab
  have hz2 := zero_sec
  have hz3 := zero_fr
  have HF0 : Hid (Blk (w.alloc (Obj.cells (frA f) 24)) w.heap.size 24 (frA f)) := Lib.hid (Blk.new w 24 (frA f))
  have HB0 : Hid (Below w.heap.size w (w.alloc (Obj.cells (frA f) 24))) := Lib.hid (below_alloc _ _)
  clear hl hb hr
  go_enter Try.func3, Try.ntmps3
  go_wp2_with fail
  refine (anchor3_any _).mono ?_
  rintro e w1 ⟨rfl, hb1⟩
  have HF1 := Lib.hid (HF0.out.below hb1 HF0.out.lt)
  have HB1 := Lib.hid (bthen HB0.out hb1)
  clear hb1 HB0 HF0
  go_wp2_with fail
  refine (new_any _).mono ?_
  rintro e w2 ⟨rfl, hb2⟩
  have HT3 : Hid (Blk (w2.alloc (Obj.cells tbl 28)) w2.heap.size 28 tbl) := Lib.hid (Blk.new _ _ _)
  have HF3 := Lib.hid ((HF1.out.below hb2 HF1.out.lt).alloc (Obj.cells tbl 28))
  have HB3 : Hid (Below w.heap.size w (w2.alloc (Obj.cells tbl 28))) := Lib.hid (bthen (bthen HB1.out hb2) (below_alloc _ _))
  clear hb2 HB1 HF1
  have hz4 := zero_rf
  have HQ4 : Hid (Blk ((w2.alloc (Obj.cells tbl 28)).alloc (Obj.cells (frA f) 30)) (w2.heap.size + 1) 30 (frA f)) := Lib.hid (by
    have h := Blk.new (w2.alloc (Obj.cells tbl 28)) 30 (frA f)
    rwa [show (w2.alloc (Obj.cells tbl 28)).heap.size = w2.heap.size + 1 by simp] at h)
  have HT4 := Lib.hid (HT3.out.alloc (Obj.cells (frA f) 30))
  have HF4 := Lib.hid (HF3.out.alloc (Obj.cells (frA f) 30))
  have HB4 := Lib.hid (bthen HB3.out (below_alloc (w2.alloc (Obj.cells tbl 28)) (Obj.cells (frA f) 30)))
  go_wp2_with (first | (refine wpl_store_new rfl _ _ rfl (tbl) w2 28 (pt 0) rfl rfl rfl info_tbl (by rw [pt_size, tbl_size]) tbl_cells ?_; go_frame) | (refine wpl_load rfl _ rfl (w2.heap.size) rfl _ _ _ HT3.out Try.underlying28 rfl info_tbl ?_; go_frame) | (refine wpl_load rfl _ rfl (w.heap.size) rfl _ _ _ HF3.out Try.underlying24 rfl (info_frA HL.out) ?_; go_frame) | (refine wpl_store_newI (w2.heap.size + 1) rfl _ _ rfl (frA f) (w2.alloc (Obj.cells tbl 28)) (by simp) 30 (frA fr0) rfl rfl rfl (info_rfA HL.out) ((frA_size fr0_len).trans (frA_size HL.out).symm) frA_one ?_; go_frame) | (refine wpl_load rfl _ rfl (w2.heap.size) rfl _ _ _ HT4.out Try.underlying28 rfl info_tbl ?_; go_frame) | (refine wpl_load rfl _ rfl (w.heap.size) rfl _ _ _ HF4.out Try.underlying24 rfl (info_frA HL.out) ?_; go_frame))
  clear hz1 HT3 HF3 HB3
  generalize (w2.alloc (Obj.cells tbl 28)).alloc (Obj.cells (frA f) 30) = w4 at *
  refine (encode_bad f _ HL.out Hb.out Hr.out).mono ?_
  rintro e w5 ⟨rfl, hb5⟩
  have HSl : Hid ((zeros 64).length = 64) := Lib.hid (zeros_length 64)
  have HT5 := Lib.hid (HT4.out.below hb5 HT4.out.lt)
  have HF5 := Lib.hid (HF4.out.below hb5 HF4.out.lt)
  have HQ5 := Lib.hid (HQ4.out.below hb5 HQ4.out.lt)
  have HB5 := Lib.hid (bthen HB4.out hb5)
  clear hb5 HB4 HT4 HF4 HQ4
  have HS6 : Hid (Blk (w5.alloc (Obj.cells (bA (zeros 64)) 32)) w5.heap.size 32 (bA (zeros 64))) := Lib.hid (Blk.new _ _ _)
  have HT6 := Lib.hid (HT5.out.alloc (Obj.cells (bA (zeros 64)) 32))
  have HF6 := Lib.hid (HF5.out.alloc (Obj.cells (bA (zeros 64)) 32))
  have HQ6 := Lib.hid (HQ5.out.alloc (Obj.cells (bA (zeros 64)) 32))
  have HB6 := Lib.hid (bthen HB5.out (below_alloc w5 (Obj.cells (bA (zeros 64)) 32)))
  clear HB5 HT5 HF5 HQ5
  go_wp2_with (first | (refine wpl_store_new rfl _ _ rfl (bA (zeros 64)) w5 32 (bA (zeros 64)) rfl rfl rfl (info_sec HSl.out) ((bA_size _).trans ((zeros_length 64).trans ((bA_size _).trans HSl.out).symm)) (bA_one _) ?_; go_frame))
  have HT7 : Hid (Blk (w5.alloc (Obj.cells (bA (zeros 64)) 32)).drew w2.heap.size 28 tbl) := Lib.hid HT6.out
  have HF7 : Hid (Blk (w5.alloc (Obj.cells (bA (zeros 64)) 32)).drew w.heap.size 24 (frA f)) := Lib.hid HF6.out
  have HQ7 : Hid (Blk (w5.alloc (Obj.cells (bA (zeros 64)) 32)).drew (w2.heap.size + 1) 30 (frA f)) := Lib.hid HQ6.out
  have HS7 : Hid (Blk (w5.alloc (Obj.cells (bA (zeros 64)) 32)).drew w5.heap.size 32 (bA (zeros 64))) := Lib.hid HS6.out
  have HB7 : Hid (Below w.heap.size w (w5.alloc (Obj.cells (bA (zeros 64)) 32)).drew) := Lib.hid HB6.out.drew
  clear HT6 HF6 HQ6 HS6 HB6 hz2 hz4
  refine wp_region_held (S := fun w' => Below (w5.alloc (Obj.cells (bA (zeros 64)) 32)).drew.heap.size (w5.alloc (Obj.cells (bA (zeros 64)) 32)).drew w') (by kernel_rfl) ?_
  change wpAnyH _ _ _ _ _ _ _ _ (World.drew _)
  generalize (w5.alloc (Obj.cells (bA (zeros 64)) 32)).drew = u0 at *
  have hS : Below u0.heap.size u0 u0 := Below.refl _ _
  refine takeH hS (i := 0) (d := 27) (v := .agg (frA f)) rfl rfl (by kernel_rfl) (by kernel_rfl) (by kernel_rfl) (fun _ _ _ h => h) (Or.inl ⟨by kernel_rfl, fun w' hw' => by exact exec_load _ rfl (w.heap.size) rfl (HF7.out.below hw' HF7.out.lt) Try.underlying24 rfl (info_frA HL.out)⟩) ?_
  refine takeH hS (i := 2) (d := 29) (v := .agg (frA f)) rfl rfl (by kernel_rfl) (by kernel_rfl) (by kernel_rfl) (fun _ _ _ h => h) (Or.inl ⟨by kernel_rfl, fun w' hw' => by exact exec_load _ rfl (w2.heap.size + 1) rfl (HQ7.out.below hw' HQ7.out.lt) Try.underlying30 rfl (info_rfA HL.out)⟩) ?_
  go_frame
  refine nextH (i := 1) rfl (by kernel_rfl) (by kernel_rfl) (fun K' hK => ?_)
  go_wp2_with fail
  refine (right_any f _).mono ?_
  rintro e u1 ⟨rfl, hbx⟩
  rw [Hr.out]
  have hS1 := bel_next hS hbx
  refine hK.out _ _ ⟨hS1, ?_⟩
  clear hK K' hbx
  refine nextH (i := 3) rfl (by kernel_rfl) (by kernel_rfl) (fun K' hK => ?_)
  go_wp2_with fail
  refine (rright_any f _).mono ?_
  rintro e u2 ⟨rfl, hbx⟩
  rw [Hr.out]
  have hS2 := bel_next hS1 hbx
  refine hK.out _ _ ⟨hS2, ?_⟩
  clear hK K' hbx
  refine takeH hS2 (i := 4) (d := 31) (v := .bool false) rfl rfl (by kernel_rfl) (by kernel_rfl) (by kernel_rfl) (fun _ _ _ h => h) (Or.inl ⟨by kernel_rfl, fun w' hw' => by kernel_rfl⟩) ?_
  refine wpAnyH_done (by kernel_rfl) ?_ _
  go_frame
  have HT8 := Lib.hid (HT7.out.below hS2 HT7.out.lt)
  have HF8 := Lib.hid (HF7.out.below hS2 HF7.out.lt)
  have HQ8 := Lib.hid (HQ7.out.below hS2 HQ7.out.lt)
  have HS8 := Lib.hid (HS7.out.below hS2 HS7.out.lt)
  have HB8 := Lib.hid (bthen HB7.out hS2)
  clear hS hS1 hS2 HT7 HF7 HQ7 HS7 HB7
  go_wp2_with (first | (refine wpl_load rfl _ rfl (w2.heap.size + 1) rfl _ _ _ HQ8.out Try.underlying30 rfl (info_rfA HL.out) ?_; go_frame))
  refine (rright_any f _).mono ?_
  rintro e w9 ⟨rfl, hb9⟩
  rw [Hr.out]
  have HT9 := Lib.hid (HT8.out.below hb9 HT8.out.lt)
  have HF9 := Lib.hid (HF8.out.below hb9 HF8.out.lt)
  have HQ9 := Lib.hid (HQ8.out.below hb9 HQ8.out.lt)
  have HS9 := Lib.hid (HS8.out.below hb9 HS8.out.lt)
  have HB9 := Lib.hid (bthen HB8.out hb9)
  clear hb9 HB8 HT8 HF8 HQ8 HS8
  go_wp2_with (first | (refine wpl_load_g (by rfl) _ rfl (w5.heap.size) rfl _ _ _ HS9.out Try.underlying32 rfl (info_sec HSl.out) ?_; go_frame) | (refine wpl_build (by rfl) 32 _ rfl (.agg (bA (zeros 64))) (fun _ => by kernel_rfl) ?_; go_frame) | (refine wpl_run (by rfl) (.bool true) (exec_eql_sector tySec _ _ _ rfl (zeros 64) (zeros 64) rfl rfl HSl.out HSl.out true (by simp)) ?_; go_frame))
  go_ret
  exact ⟨rfl, HB9.out⟩

set_option maxRecDepth 100000 in
set_option maxHeartbeats 4000000 in
theorem walkEncodes_own (f : FrR) (zn of : Int) (w : World) (hl : f.b.length = 44) (hb : ∀ c ∈ f.b, c < 256) (hr : rightB f = true) (h1 : f.z = zn) (h2 : f.o = of) :
    Calls Try.prog 3 #[.agg (frA f), .int .i64 zn, .int .i64 of] w fun e w' => e = .returned (.bool true) ∧ Below w.heap.size w w' := by
  have HL := Lib.hid hl
  have Hb := Lib.hid hb
  have Hr := Lib.hid hr
  have hz1 := zero_tab
  have hz2 := zero_sec
  have hz3 := zero_fr
  have HF0 : Hid (Blk (w.alloc (Obj.cells (frA f) 24)) w.heap.size 24 (frA f)) := Lib.hid (Blk.new w 24 (frA f))
  have HB0 : Hid (Below w.heap.size w (w.alloc (Obj.cells (frA f) 24))) := Lib.hid (below_alloc _ _)
  have HD1 : Hid (decE (sec f) = 0) := Lib.hid (dec_sec f hr hl hb).1
  have HD2 : Hid (decF (sec f) = f) := Lib.hid (dec_sec f hr hl hb).2
  have HA1 : Hid (atE (sec f) f.z f.o = 0) := Lib.hid ((at_sec f f.z f.o hr hl hb).1 ⟨rfl, rfl⟩).1
  have HA2 : Hid (atF (sec f) f.z f.o = f) := Lib.hid ((at_sec f f.z f.o hr hl hb).1 ⟨rfl, rfl⟩).2
  have HE : Hid (atE (sec f) zn of = 0) := Lib.hid ((at_sec f zn of hr hl hb).1 ⟨h1, h2⟩).1
  have HX : Hid (atF (sec f) zn of = f) := Lib.hid ((at_sec f zn of hr hl hb).1 ⟨h1, h2⟩).2
  have d1 : (zn != f.z) = false := by rw [h1]; simp
  have d2 : (of != f.o) = false := by rw [h2]; simp
  clear h1 h2
  clear hl hb hr
  go_enter Try.func3, Try.ntmps3
  go_wp2_with fail
  refine (anchor3_any _).mono ?_
  rintro e w1 ⟨rfl, hb1⟩
  have HF1 := Lib.hid (HF0.out.below hb1 HF0.out.lt)
  have HB1 := Lib.hid (bthen HB0.out hb1)
  clear hb1 HB0 HF0
  go_wp2_with fail
  refine (new_any _).mono ?_
  rintro e w2 ⟨rfl, hb2⟩
  have HT3 : Hid (Blk (w2.alloc (Obj.cells tbl 28)) w2.heap.size 28 tbl) := Lib.hid (Blk.new _ _ _)
  have HF3 := Lib.hid ((HF1.out.below hb2 HF1.out.lt).alloc (Obj.cells tbl 28))
  have HB3 : Hid (Below w.heap.size w (w2.alloc (Obj.cells tbl 28))) := Lib.hid (bthen (bthen HB1.out hb2) (below_alloc _ _))
  clear hb2 HB1 HF1
  have hz4 := zero_rf
  have HQ4 : Hid (Blk ((w2.alloc (Obj.cells tbl 28)).alloc (Obj.cells (frA f) 30)) (w2.heap.size + 1) 30 (frA f)) := Lib.hid (by
    have h := Blk.new (w2.alloc (Obj.cells tbl 28)) 30 (frA f)
    rwa [show (w2.alloc (Obj.cells tbl 28)).heap.size = w2.heap.size + 1 by simp] at h)
  have HT4 := Lib.hid (HT3.out.alloc (Obj.cells (frA f) 30))
  have HF4 := Lib.hid (HF3.out.alloc (Obj.cells (frA f) 30))
  have HB4 := Lib.hid (bthen HB3.out (below_alloc (w2.alloc (Obj.cells tbl 28)) (Obj.cells (frA f) 30)))
  go_wp2_with (first | (refine wpl_store_new rfl _ _ rfl (tbl) w2 28 (pt 0) rfl rfl rfl info_tbl (by rw [pt_size, tbl_size]) tbl_cells ?_; go_frame) | (refine wpl_load rfl _ rfl (w2.heap.size) rfl _ _ _ HT3.out Try.underlying28 rfl info_tbl ?_; go_frame) | (refine wpl_load rfl _ rfl (w.heap.size) rfl _ _ _ HF3.out Try.underlying24 rfl (info_frA HL.out) ?_; go_frame) | (refine wpl_store_newI (w2.heap.size + 1) rfl _ _ rfl (frA f) (w2.alloc (Obj.cells tbl 28)) (by simp) 30 (frA fr0) rfl rfl rfl (info_rfA HL.out) ((frA_size fr0_len).trans (frA_size HL.out).symm) frA_one ?_; go_frame) | (refine wpl_load rfl _ rfl (w2.heap.size) rfl _ _ _ HT4.out Try.underlying28 rfl info_tbl ?_; go_frame) | (refine wpl_load rfl _ rfl (w.heap.size) rfl _ _ _ HF4.out Try.underlying24 rfl (info_frA HL.out) ?_; go_frame))
  clear hz1 HT3 HF3 HB3
  generalize (w2.alloc (Obj.cells tbl 28)).alloc (Obj.cells (frA f) 30) = w4 at *
  refine (encode_ok f _ HL.out Hb.out Hr.out).mono ?_
  rintro e w5 ⟨rfl, hb5⟩
  have HSl : Hid ((sec f).length = 64) := Lib.hid (sec_length HL.out)
  have HT5 := Lib.hid (HT4.out.below hb5 HT4.out.lt)
  have HF5 := Lib.hid (HF4.out.below hb5 HF4.out.lt)
  have HQ5 := Lib.hid (HQ4.out.below hb5 HQ4.out.lt)
  have HB5 := Lib.hid (bthen HB4.out hb5)
  clear hb5 HB4 HT4 HF4 HQ4
  have HS6 : Hid (Blk (w5.alloc (Obj.cells (bA (sec f)) 32)) w5.heap.size 32 (bA (sec f))) := Lib.hid (Blk.new _ _ _)
  have HT6 := Lib.hid (HT5.out.alloc (Obj.cells (bA (sec f)) 32))
  have HF6 := Lib.hid (HF5.out.alloc (Obj.cells (bA (sec f)) 32))
  have HQ6 := Lib.hid (HQ5.out.alloc (Obj.cells (bA (sec f)) 32))
  have HB6 := Lib.hid (bthen HB5.out (below_alloc w5 (Obj.cells (bA (sec f)) 32)))
  clear HB5 HT5 HF5 HQ5
  go_wp2_with (first | (refine wpl_store_new rfl _ _ rfl (bA (sec f)) w5 32 (bA (zeros 64)) rfl rfl rfl (info_sec HSl.out) ((bA_size _).trans ((zeros_length 64).trans ((bA_size _).trans HSl.out).symm)) (bA_one _) ?_; go_frame))
  have HT7 : Hid (Blk (w5.alloc (Obj.cells (bA (sec f)) 32)).drew w2.heap.size 28 tbl) := Lib.hid HT6.out
  have HF7 : Hid (Blk (w5.alloc (Obj.cells (bA (sec f)) 32)).drew w.heap.size 24 (frA f)) := Lib.hid HF6.out
  have HQ7 : Hid (Blk (w5.alloc (Obj.cells (bA (sec f)) 32)).drew (w2.heap.size + 1) 30 (frA f)) := Lib.hid HQ6.out
  have HS7 : Hid (Blk (w5.alloc (Obj.cells (bA (sec f)) 32)).drew w5.heap.size 32 (bA (sec f))) := Lib.hid HS6.out
  have HB7 : Hid (Below w.heap.size w (w5.alloc (Obj.cells (bA (sec f)) 32)).drew) := Lib.hid HB6.out.drew
  clear HT6 HF6 HQ6 HS6 HB6 hz2 hz4
  refine wp_region_held (S := fun w' => Below (w5.alloc (Obj.cells (bA (sec f)) 32)).drew.heap.size (w5.alloc (Obj.cells (bA (sec f)) 32)).drew w') (by kernel_rfl) ?_
  change wpAnyH _ _ _ _ _ _ _ _ (World.drew _)
  generalize (w5.alloc (Obj.cells (bA (sec f)) 32)).drew = u0 at *
  have hS : Below u0.heap.size u0 u0 := Below.refl _ _
  refine takeH hS (i := 0) (d := 27) (v := .agg (frA f)) rfl rfl (by kernel_rfl) (by kernel_rfl) (by kernel_rfl) (fun _ _ _ h => h) (Or.inl ⟨by kernel_rfl, fun w' hw' => by exact exec_load _ rfl (w.heap.size) rfl (HF7.out.below hw' HF7.out.lt) Try.underlying24 rfl (info_frA HL.out)⟩) ?_
  refine takeH hS (i := 2) (d := 29) (v := .agg (frA f)) rfl rfl (by kernel_rfl) (by kernel_rfl) (by kernel_rfl) (fun _ _ _ h => h) (Or.inl ⟨by kernel_rfl, fun w' hw' => by exact exec_load _ rfl (w2.heap.size + 1) rfl (HQ7.out.below hw' HQ7.out.lt) Try.underlying30 rfl (info_rfA HL.out)⟩) ?_
  go_frame
  refine nextH (i := 1) rfl (by kernel_rfl) (by kernel_rfl) (fun K' hK => ?_)
  go_wp2_with fail
  refine (right_any f _).mono ?_
  rintro e u1 ⟨rfl, hbx⟩
  rw [Hr.out]
  have hS1 := bel_next hS hbx
  refine hK.out _ _ ⟨hS1, ?_⟩
  clear hK K' hbx
  refine nextH (i := 3) rfl (by kernel_rfl) (by kernel_rfl) (fun K' hK => ?_)
  go_wp2_with fail
  refine (rright_any f _).mono ?_
  rintro e u2 ⟨rfl, hbx⟩
  rw [Hr.out]
  have hS2 := bel_next hS1 hbx
  refine hK.out _ _ ⟨hS2, ?_⟩
  clear hK K' hbx
  refine takeH hS2 (i := 4) (d := 31) (v := .bool false) rfl rfl (by kernel_rfl) (by kernel_rfl) (by kernel_rfl) (fun _ _ _ h => h) (Or.inl ⟨by kernel_rfl, fun w' hw' => by kernel_rfl⟩) ?_
  refine wpAnyH_done (by kernel_rfl) ?_ _
  go_frame
  have HT8 := Lib.hid (HT7.out.below hS2 HT7.out.lt)
  have HF8 := Lib.hid (HF7.out.below hS2 HF7.out.lt)
  have HQ8 := Lib.hid (HQ7.out.below hS2 HQ7.out.lt)
  have HS8 := Lib.hid (HS7.out.below hS2 HS7.out.lt)
  have HB8 := Lib.hid (bthen HB7.out hS2)
  clear hS hS1 hS2 HT7 HF7 HQ7 HS7 HB7
  go_wp2_with (first | (refine wpl_load rfl _ rfl (w2.heap.size + 1) rfl _ _ _ HQ8.out Try.underlying30 rfl (info_rfA HL.out) ?_; go_frame))
  refine (rright_any f _).mono ?_
  rintro e w9 ⟨rfl, hb9⟩
  rw [Hr.out]
  have HT9 := Lib.hid (HT8.out.below hb9 HT8.out.lt)
  have HF9 := Lib.hid (HF8.out.below hb9 HF8.out.lt)
  have HQ9 := Lib.hid (HQ8.out.below hb9 HQ8.out.lt)
  have HS9 := Lib.hid (HS8.out.below hb9 HS8.out.lt)
  have HB9 := Lib.hid (bthen HB8.out hb9)
  clear hb9 HB8 HT8 HF8 HQ8 HS8
  have HSb : Hid (∀ c ∈ sec f, c < 256) := Lib.hid (sec_lt Hb.out)
  go_wp2_with (first | (refine wpl_load rfl _ rfl (w2.heap.size) rfl _ _ _ HT9.out Try.underlying28 rfl info_tbl ?_; go_frame) | (refine wpl_load rfl _ rfl (w5.heap.size) rfl _ _ _ HS9.out Try.underlying32 rfl (info_sec HSl.out) ?_; go_frame))
  refine (decode_any (sec f) _ HSl.out HSb.out).mono ?_
  rintro e w10 ⟨rfl, hb10⟩
  rw [HD1.out, HD2.out]
  have HT10 := Lib.hid (HT9.out.below hb10 HT9.out.lt)
  have HF10 := Lib.hid (HF9.out.below hb10 HF9.out.lt)
  have HQ10 := Lib.hid (HQ9.out.below hb10 HQ9.out.lt)
  have HS10 := Lib.hid (HS9.out.below hb10 HS9.out.lt)
  have HB10 := Lib.hid (bthen HB9.out hb10)
  clear hb10 HB9 HT9 HF9 HQ9 HS9
  have HG11 : Hid (Blk (w10.alloc (Obj.cells (frA f) 24)) w10.heap.size 24 (frA f)) := Lib.hid (Blk.new _ _ _)
  have HT11 := Lib.hid (HT10.out.alloc (Obj.cells (frA f) 24))
  have HF11 := Lib.hid (HF10.out.alloc (Obj.cells (frA f) 24))
  have HQ11 := Lib.hid (HQ10.out.alloc (Obj.cells (frA f) 24))
  have HS11 := Lib.hid (HS10.out.alloc (Obj.cells (frA f) 24))
  have HB11 := Lib.hid (bthen HB10.out (below_alloc w10 (Obj.cells (frA f) 24)))
  clear HB10 HT10 HF10 HQ10 HS10
  have c1 := (HF11.out.cell 1).trans (frA_at1 f)
  have c2 := (HF11.out.cell 2).trans (frA_at2 f)
  go_wp2_with (first | (refine wpl_store_new rfl _ _ rfl (frA (f)) w10 24 (frA fr0) rfl rfl rfl (info_frA HL.out) ((frA_size fr0_len).trans (frA_size HL.out).symm) frA_one ?_; go_frame) | (refine wpl_load rfl _ rfl (w2.heap.size) rfl _ _ _ HT11.out Try.underlying28 rfl info_tbl ?_; go_frame) | (refine wpl_load rfl _ rfl (w5.heap.size) rfl _ _ _ HS11.out Try.underlying32 rfl (info_sec HSl.out) ?_; go_frame))
  clear c1 c2
  generalize w10.alloc (Obj.cells (frA f) 24) = w11 at *
  refine (at_any (sec f) f.z f.o _ HSl.out HSb.out).mono ?_
  rintro e w12 ⟨rfl, hb12⟩
  rw [HA1.out, HA2.out]
  have HT12 := Lib.hid (HT11.out.below hb12 HT11.out.lt)
  have HF12 := Lib.hid (HF11.out.below hb12 HF11.out.lt)
  have HQ12 := Lib.hid (HQ11.out.below hb12 HQ11.out.lt)
  have HS12 := Lib.hid (HS11.out.below hb12 HS11.out.lt)
  have HG12 := Lib.hid (HG11.out.below hb12 HG11.out.lt)
  have HB12 := Lib.hid (bthen HB11.out hb12)
  clear hb12 HB11 HT11 HF11 HQ11 HS11 HG11
  have HY13 : Hid (Blk (w12.alloc (Obj.cells (frA f) 24)) w12.heap.size 24 (frA f)) := Lib.hid (Blk.new _ _ _)
  have HT13 := Lib.hid (HT12.out.alloc (Obj.cells (frA f) 24))
  have HF13 := Lib.hid (HF12.out.alloc (Obj.cells (frA f) 24))
  have HQ13 := Lib.hid (HQ12.out.alloc (Obj.cells (frA f) 24))
  have HS13 := Lib.hid (HS12.out.alloc (Obj.cells (frA f) 24))
  have HG13 := Lib.hid (HG12.out.alloc (Obj.cells (frA f) 24))
  have HB13 := Lib.hid (bthen HB12.out (below_alloc w12 (Obj.cells (frA f) 24)))
  clear HB12 HT12 HF12 HQ12 HS12 HG12
  go_wp2_with (first | (refine wpl_store_new rfl _ _ rfl (frA (f)) w12 24 (frA fr0) rfl rfl rfl (info_frA HL.out) ((frA_size fr0_len).trans (frA_size HL.out).symm) frA_one ?_; go_frame) | (refine wpl_load rfl _ rfl (w2.heap.size) rfl _ _ _ HT13.out Try.underlying28 rfl info_tbl ?_; go_frame) | (refine wpl_load rfl _ rfl (w5.heap.size) rfl _ _ _ HS13.out Try.underlying32 rfl (info_sec HSl.out) ?_; go_frame))
  generalize w12.alloc (Obj.cells (frA f) 24) = w13 at *
  refine (at_any (sec f) zn of _ HSl.out HSb.out).mono ?_
  rintro e w14 ⟨rfl, hb14⟩
  rw [HE.out, HX.out]
  clear HT13
  have HF14 := Lib.hid (HF13.out.below hb14 HF13.out.lt)
  have HQ14 := Lib.hid (HQ13.out.below hb14 HQ13.out.lt)
  have HS14 := Lib.hid (HS13.out.below hb14 HS13.out.lt)
  have HG14 := Lib.hid (HG13.out.below hb14 HG13.out.lt)
  have HY14 := Lib.hid (HY13.out.below hb14 HY13.out.lt)
  have HB14 := Lib.hid (bthen HB13.out hb14)
  clear hb14 HB13 HF13 HQ13 HS13 HG13 HY13
  have HZ15 : Hid (Blk (w14.alloc (Obj.cells (frA f) 24)) w14.heap.size 24 (frA f)) := Lib.hid (Blk.new _ _ _)
  have HF15 := Lib.hid (HF14.out.alloc (Obj.cells (frA f) 24))
  have HQ15 := Lib.hid (HQ14.out.alloc (Obj.cells (frA f) 24))
  have HS15 := Lib.hid (HS14.out.alloc (Obj.cells (frA f) 24))
  have HG15 := Lib.hid (HG14.out.alloc (Obj.cells (frA f) 24))
  have HY15 := Lib.hid (HY14.out.alloc (Obj.cells (frA f) 24))
  have HB15 := Lib.hid (bthen HB14.out (below_alloc w14 (Obj.cells (frA f) 24)))
  clear HB14 HF14 HQ14 HS14 HG14 HY14
  have c1 := (HF15.out.cell 1).trans (frA_at1 f)
  have c2 := (HF15.out.cell 2).trans (frA_at2 f)
  go_wp2_with (first | (refine wpl_store_new rfl _ _ rfl (frA (f)) w14 24 (frA fr0) rfl rfl rfl (info_frA HL.out) ((frA_size fr0_len).trans (frA_size HL.out).symm) frA_one ?_; go_frame) | (refine wpl_load_g (by rfl) _ rfl (w14.heap.size) rfl _ _ _ HZ15.out Try.underlying24 rfl (info_frA HL.out) ?_; go_frame) | (refine wpl_load_g (by rfl) _ rfl (w.heap.size) rfl _ _ _ HF15.out Try.underlying24 rfl (info_frA HL.out) ?_; go_frame) | (refine wpl_run (by rfl) (.bool false) (exec_neq_frame tyFr _ _ _ rfl (f) (f) rfl rfl HL.out HL.out false (neq_self f)) ?_; go_frame))
  clear c1 c2 hz3
  have HF16 : Hid (Blk (w14.alloc (Obj.cells (frA f) 24)).drew w.heap.size 24 (frA f)) := Lib.hid HF15.out
  have HQ16 : Hid (Blk (w14.alloc (Obj.cells (frA f) 24)).drew (w2.heap.size + 1) 30 (frA f)) := Lib.hid HQ15.out
  have HS16 : Hid (Blk (w14.alloc (Obj.cells (frA f) 24)).drew w5.heap.size 32 (bA (sec f))) := Lib.hid HS15.out
  have HG16 : Hid (Blk (w14.alloc (Obj.cells (frA f) 24)).drew w10.heap.size 24 (frA f)) := Lib.hid HG15.out
  have HY16 : Hid (Blk (w14.alloc (Obj.cells (frA f) 24)).drew w12.heap.size 24 (frA f)) := Lib.hid HY15.out
  have HB16 : Hid (Below w.heap.size w (w14.alloc (Obj.cells (frA f) 24)).drew) := Lib.hid HB15.out.drew
  clear HF15 HQ15 HS15 HG15 HY15 HB15 HZ15
  refine wp_region_held (S := fun w' => Below (w14.alloc (Obj.cells (frA f) 24)).drew.heap.size (w14.alloc (Obj.cells (frA f) 24)).drew w') (by kernel_rfl) ?_
  change wpAnyH _ _ _ _ _ _ _ _ (World.drew _)
  generalize (w14.alloc (Obj.cells (frA f) 24)).drew = u3 at *
  have hS : Below u3.heap.size u3 u3 := Below.refl _ _
  refine takeH hS (i := 0) (d := 90) (v := .int .i64 0) rfl rfl (by kernel_rfl) (by kernel_rfl) (by kernel_rfl) (fun _ _ _ h => h) (Or.inl ⟨by kernel_rfl, fun w' hw' => by kernel_rfl⟩) ?_
  refine takeH hS (i := 1) (d := 91) (v := .bool true) rfl rfl (by kernel_rfl) (by kernel_rfl) (by kernel_rfl) (fun _ _ _ h => h) (Or.inl ⟨by kernel_rfl, fun w' hw' => by kernel_rfl⟩) ?_
  refine takeH hS (i := 2) (d := 92) (v := .bool true) rfl rfl (by kernel_rfl) (by kernel_rfl) (by kernel_rfl) (fun _ _ _ h => h) (Or.inl ⟨by kernel_rfl, fun w' hw' => by kernel_rfl⟩) ?_
  refine takeH hS (i := 3) (d := 93) (v := .agg (bA (sec f))) rfl rfl (by kernel_rfl) (by kernel_rfl) (by kernel_rfl) (fun _ _ _ h => h) (Or.inl ⟨by kernel_rfl, fun w' hw' => by exact exec_load _ rfl (w5.heap.size) rfl (HS16.out.below hw' HS16.out.lt) Try.underlying32 rfl (info_sec HSl.out)⟩) ?_
  refine takeH hS (i := 4) (d := 94) (v := .agg (frA f)) rfl rfl (by kernel_rfl) (by kernel_rfl) (by kernel_rfl) (fun _ _ _ h => h) (Or.inl ⟨by kernel_rfl, fun w' hw' => by exact exec_load _ rfl (w2.heap.size + 1) rfl (HQ16.out.below hw' HQ16.out.lt) Try.underlying30 rfl (info_rfA HL.out)⟩) ?_
  go_frame
  refine nextH (i := 5) rfl (by kernel_rfl) (by kernel_rfl) (fun K' hK => ?_)
  go_wp2_with fail
  refine (rbytes_any f _ HL.out Hb.out Hr.out).mono ?_
  rintro e u4 ⟨rfl, hbx⟩
  have hS1 := bel_next hS hbx
  refine hK.out _ _ ⟨hS1, ?_⟩
  clear hK K' hbx
  refine takeH hS1 (i := 6) (d := 96) (v := .bool true) rfl rfl (by kernel_rfl) (by kernel_rfl) (by kernel_rfl) (fun _ _ _ h => h) (Or.inl ⟨by kernel_rfl, fun w' hw' => by exact exec_eql_sector ty64 _ _ _ rfl (sec f) (sec f) rfl rfl HSl.out HSl.out true (by simp)⟩) ?_
  refine takeH hS1 (i := 7) (d := 97) (v := .bool true) rfl rfl (by kernel_rfl) (by kernel_rfl) (by kernel_rfl) (fun _ _ _ h => h) (Or.inl ⟨by kernel_rfl, fun w' hw' => by kernel_rfl⟩) ?_
  refine takeH hS1 (i := 8) (d := 98) (v := .bool true) rfl rfl (by kernel_rfl) (by kernel_rfl) (by kernel_rfl) (fun _ _ _ h => h) (Or.inl ⟨by kernel_rfl, fun w' hw' => by kernel_rfl⟩) ?_
  go_frame
  refine takeH hS1 (i := 9) (d := 99) (v := .agg (frA f)) rfl rfl (by kernel_rfl) (by kernel_rfl) (by kernel_rfl) (fun _ _ _ h => h) (Or.inl ⟨by kernel_rfl, fun w' hw' => by exact exec_load _ rfl (w10.heap.size) rfl (HG16.out.below hw' HG16.out.lt) Try.underlying24 rfl (info_frA HL.out)⟩) ?_
  refine takeH hS1 (i := 10) (d := 100) (v := .agg (frA f)) rfl rfl (by kernel_rfl) (by kernel_rfl) (by kernel_rfl) (fun _ _ _ h => h) (Or.inl ⟨by kernel_rfl, fun w' hw' => by exact exec_load _ rfl (w.heap.size) rfl (HF16.out.below hw' HF16.out.lt) Try.underlying24 rfl (info_frA HL.out)⟩) ?_
  refine takeH hS1 (i := 11) (d := 101) (v := .bool true) rfl rfl (by kernel_rfl) (by kernel_rfl) (by kernel_rfl) (fun _ _ _ h => h) (Or.inl ⟨by kernel_rfl, fun w' hw' => by exact exec_eql_frame tyFr _ _ _ rfl f f rfl rfl HL.out HL.out true (eq_self f)⟩) ?_
  refine takeH hS1 (i := 12) (d := 102) (v := .bool true) rfl rfl (by kernel_rfl) (by kernel_rfl) (by kernel_rfl) (fun _ _ _ h => h) (Or.inl ⟨by kernel_rfl, fun w' hw' => by kernel_rfl⟩) ?_
  refine takeH hS1 (i := 13) (d := 103) (v := .bool true) rfl rfl (by kernel_rfl) (by kernel_rfl) (by kernel_rfl) (fun _ _ _ h => h) (Or.inl ⟨by kernel_rfl, fun w' hw' => by kernel_rfl⟩) ?_
  go_frame
  refine takeH hS1 (i := 14) (d := 104) (v := .int .i64 0) rfl rfl (by kernel_rfl) (by kernel_rfl) (by kernel_rfl) (fun _ _ _ h => h) (Or.inl ⟨by kernel_rfl, fun w' hw' => by kernel_rfl⟩) ?_
  refine takeH hS1 (i := 15) (d := 105) (v := .bool true) rfl rfl (by kernel_rfl) (by kernel_rfl) (by kernel_rfl) (fun _ _ _ h => h) (Or.inl ⟨by kernel_rfl, fun w' hw' => by kernel_rfl⟩) ?_
  refine takeH hS1 (i := 16) (d := 106) (v := .bool true) rfl rfl (by kernel_rfl) (by kernel_rfl) (by kernel_rfl) (fun _ _ _ h => h) (Or.inl ⟨by kernel_rfl, fun w' hw' => by kernel_rfl⟩) ?_
  refine takeH hS1 (i := 17) (d := 107) (v := .bool true) rfl rfl (by kernel_rfl) (by kernel_rfl) (by kernel_rfl) (fun _ _ _ h => h) (Or.inl ⟨by kernel_rfl, fun w' hw' => by kernel_rfl⟩) ?_
  go_frame
  refine takeH hS1 (i := 18) (d := 108) (v := .agg (frA f)) rfl rfl (by kernel_rfl) (by kernel_rfl) (by kernel_rfl) (fun _ _ _ h => h) (Or.inl ⟨by kernel_rfl, fun w' hw' => by exact exec_load _ rfl (w12.heap.size) rfl (HY16.out.below hw' HY16.out.lt) Try.underlying24 rfl (info_frA HL.out)⟩) ?_
  refine takeH hS1 (i := 19) (d := 109) (v := .agg (frA f)) rfl rfl (by kernel_rfl) (by kernel_rfl) (by kernel_rfl) (fun _ _ _ h => h) (Or.inl ⟨by kernel_rfl, fun w' hw' => by exact exec_load _ rfl (w.heap.size) rfl (HF16.out.below hw' HF16.out.lt) Try.underlying24 rfl (info_frA HL.out)⟩) ?_
  refine takeH hS1 (i := 20) (d := 110) (v := .bool true) rfl rfl (by kernel_rfl) (by kernel_rfl) (by kernel_rfl) (fun _ _ _ h => h) (Or.inl ⟨by kernel_rfl, fun w' hw' => by exact exec_eql_frame tyFr _ _ _ rfl f f rfl rfl HL.out HL.out true (eq_self f)⟩) ?_
  refine takeH hS1 (i := 21) (d := 111) (v := .bool true) rfl rfl (by kernel_rfl) (by kernel_rfl) (by kernel_rfl) (fun _ _ _ h => h) (Or.inl ⟨by kernel_rfl, fun w' hw' => by kernel_rfl⟩) ?_
  refine takeH hS1 (i := 22) (d := 112) (v := .bool true) rfl rfl (by kernel_rfl) (by kernel_rfl) (by kernel_rfl) (fun _ _ _ h => h) (Or.inl ⟨by kernel_rfl, fun w' hw' => by kernel_rfl⟩) ?_
  go_frame
  refine takeH hS1 (i := 23) (d := 113) (v := .int .i64 0) rfl rfl (by kernel_rfl) (by kernel_rfl) (by kernel_rfl) (fun _ _ _ h => h) (Or.inl ⟨by kernel_rfl, fun w' hw' => by kernel_rfl⟩) ?_
  refine takeH hS1 (i := 24) (d := 114) (v := .bool true) rfl rfl (by kernel_rfl) (by kernel_rfl) (by kernel_rfl) (fun _ _ _ h => h) (Or.inl ⟨by kernel_rfl, fun w' hw' => by kernel_rfl⟩) ?_
  refine takeH hS1 (i := 25) (d := 115) (v := .bool true) rfl rfl (by kernel_rfl) (by kernel_rfl) (by kernel_rfl) (fun _ _ _ h => h) (Or.inl ⟨by kernel_rfl, fun w' hw' => by kernel_rfl⟩) ?_
  refine takeH hS1 (i := 26) (d := 6) (v := .bool true) rfl rfl (by kernel_rfl) (by kernel_rfl) (by kernel_rfl) (fun _ _ _ h => h) (Or.inl ⟨by kernel_rfl, fun w' hw' => by kernel_rfl⟩) ?_
  refine wpAnyH_done (by kernel_rfl) ?_ _
  go_frame
  go_wp2_with fail
  go_ret
  exact ⟨rfl, bthen HB16.out hS1⟩

set_option maxRecDepth 100000 in
set_option maxHeartbeats 4000000 in
theorem walkEncodes_zone (f : FrR) (zn of : Int) (w : World) (hl : f.b.length = 44) (hb : ∀ c ∈ f.b, c < 256) (hr : rightB f = true) (h1 : f.z ≠ zn) :
    Calls Try.prog 3 #[.agg (frA f), .int .i64 zn, .int .i64 of] w fun e w' => e = .returned (.bool true) ∧ Below w.heap.size w w' := by
  have HL := Lib.hid hl
  have Hb := Lib.hid hb
  have Hr := Lib.hid hr
  have hz1 := zero_tab
  have hz2 := zero_sec
  have hz3 := zero_fr
  have HF0 : Hid (Blk (w.alloc (Obj.cells (frA f) 24)) w.heap.size 24 (frA f)) := Lib.hid (Blk.new w 24 (frA f))
  have HB0 : Hid (Below w.heap.size w (w.alloc (Obj.cells (frA f) 24))) := Lib.hid (below_alloc _ _)
  have HD1 : Hid (decE (sec f) = 0) := Lib.hid (dec_sec f hr hl hb).1
  have HD2 : Hid (decF (sec f) = f) := Lib.hid (dec_sec f hr hl hb).2
  have HA1 : Hid (atE (sec f) f.z f.o = 0) := Lib.hid ((at_sec f f.z f.o hr hl hb).1 ⟨rfl, rfl⟩).1
  have HA2 : Hid (atF (sec f) f.z f.o = f) := Lib.hid ((at_sec f f.z f.o hr hl hb).1 ⟨rfl, rfl⟩).2
  have HE : Hid (atE (sec f) zn of = 12) := Lib.hid ((at_sec f zn of hr hl hb).2 (fun h => h1 h.1)).1
  have HX : Hid (atF (sec f) zn of = fr0) := Lib.hid ((at_sec f zn of hr hl hb).2 (fun h => h1 h.1)).2
  have d1 : (zn != f.z) = true := by rw [bne_iff_ne]; exact fun e => h1 e.symm
  clear h1
  clear hl hb hr
  go_enter Try.func3, Try.ntmps3
  go_wp2_with fail
  refine (anchor3_any _).mono ?_
  rintro e w1 ⟨rfl, hb1⟩
  have HF1 := Lib.hid (HF0.out.below hb1 HF0.out.lt)
  have HB1 := Lib.hid (bthen HB0.out hb1)
  clear hb1 HB0 HF0
  go_wp2_with fail
  refine (new_any _).mono ?_
  rintro e w2 ⟨rfl, hb2⟩
  have HT3 : Hid (Blk (w2.alloc (Obj.cells tbl 28)) w2.heap.size 28 tbl) := Lib.hid (Blk.new _ _ _)
  have HF3 := Lib.hid ((HF1.out.below hb2 HF1.out.lt).alloc (Obj.cells tbl 28))
  have HB3 : Hid (Below w.heap.size w (w2.alloc (Obj.cells tbl 28))) := Lib.hid (bthen (bthen HB1.out hb2) (below_alloc _ _))
  clear hb2 HB1 HF1
  have hz4 := zero_rf
  have HQ4 : Hid (Blk ((w2.alloc (Obj.cells tbl 28)).alloc (Obj.cells (frA f) 30)) (w2.heap.size + 1) 30 (frA f)) := Lib.hid (by
    have h := Blk.new (w2.alloc (Obj.cells tbl 28)) 30 (frA f)
    rwa [show (w2.alloc (Obj.cells tbl 28)).heap.size = w2.heap.size + 1 by simp] at h)
  have HT4 := Lib.hid (HT3.out.alloc (Obj.cells (frA f) 30))
  have HF4 := Lib.hid (HF3.out.alloc (Obj.cells (frA f) 30))
  have HB4 := Lib.hid (bthen HB3.out (below_alloc (w2.alloc (Obj.cells tbl 28)) (Obj.cells (frA f) 30)))
  go_wp2_with (first | (refine wpl_store_new rfl _ _ rfl (tbl) w2 28 (pt 0) rfl rfl rfl info_tbl (by rw [pt_size, tbl_size]) tbl_cells ?_; go_frame) | (refine wpl_load rfl _ rfl (w2.heap.size) rfl _ _ _ HT3.out Try.underlying28 rfl info_tbl ?_; go_frame) | (refine wpl_load rfl _ rfl (w.heap.size) rfl _ _ _ HF3.out Try.underlying24 rfl (info_frA HL.out) ?_; go_frame) | (refine wpl_store_newI (w2.heap.size + 1) rfl _ _ rfl (frA f) (w2.alloc (Obj.cells tbl 28)) (by simp) 30 (frA fr0) rfl rfl rfl (info_rfA HL.out) ((frA_size fr0_len).trans (frA_size HL.out).symm) frA_one ?_; go_frame) | (refine wpl_load rfl _ rfl (w2.heap.size) rfl _ _ _ HT4.out Try.underlying28 rfl info_tbl ?_; go_frame) | (refine wpl_load rfl _ rfl (w.heap.size) rfl _ _ _ HF4.out Try.underlying24 rfl (info_frA HL.out) ?_; go_frame))
  clear hz1 HT3 HF3 HB3
  generalize (w2.alloc (Obj.cells tbl 28)).alloc (Obj.cells (frA f) 30) = w4 at *
  refine (encode_ok f _ HL.out Hb.out Hr.out).mono ?_
  rintro e w5 ⟨rfl, hb5⟩
  have HSl : Hid ((sec f).length = 64) := Lib.hid (sec_length HL.out)
  have HT5 := Lib.hid (HT4.out.below hb5 HT4.out.lt)
  have HF5 := Lib.hid (HF4.out.below hb5 HF4.out.lt)
  have HQ5 := Lib.hid (HQ4.out.below hb5 HQ4.out.lt)
  have HB5 := Lib.hid (bthen HB4.out hb5)
  clear hb5 HB4 HT4 HF4 HQ4
  have HS6 : Hid (Blk (w5.alloc (Obj.cells (bA (sec f)) 32)) w5.heap.size 32 (bA (sec f))) := Lib.hid (Blk.new _ _ _)
  have HT6 := Lib.hid (HT5.out.alloc (Obj.cells (bA (sec f)) 32))
  have HF6 := Lib.hid (HF5.out.alloc (Obj.cells (bA (sec f)) 32))
  have HQ6 := Lib.hid (HQ5.out.alloc (Obj.cells (bA (sec f)) 32))
  have HB6 := Lib.hid (bthen HB5.out (below_alloc w5 (Obj.cells (bA (sec f)) 32)))
  clear HB5 HT5 HF5 HQ5
  go_wp2_with (first | (refine wpl_store_new rfl _ _ rfl (bA (sec f)) w5 32 (bA (zeros 64)) rfl rfl rfl (info_sec HSl.out) ((bA_size _).trans ((zeros_length 64).trans ((bA_size _).trans HSl.out).symm)) (bA_one _) ?_; go_frame))
  have HT7 : Hid (Blk (w5.alloc (Obj.cells (bA (sec f)) 32)).drew w2.heap.size 28 tbl) := Lib.hid HT6.out
  have HF7 : Hid (Blk (w5.alloc (Obj.cells (bA (sec f)) 32)).drew w.heap.size 24 (frA f)) := Lib.hid HF6.out
  have HQ7 : Hid (Blk (w5.alloc (Obj.cells (bA (sec f)) 32)).drew (w2.heap.size + 1) 30 (frA f)) := Lib.hid HQ6.out
  have HS7 : Hid (Blk (w5.alloc (Obj.cells (bA (sec f)) 32)).drew w5.heap.size 32 (bA (sec f))) := Lib.hid HS6.out
  have HB7 : Hid (Below w.heap.size w (w5.alloc (Obj.cells (bA (sec f)) 32)).drew) := Lib.hid HB6.out.drew
  clear HT6 HF6 HQ6 HS6 HB6 hz2 hz4
  refine wp_region_held (S := fun w' => Below (w5.alloc (Obj.cells (bA (sec f)) 32)).drew.heap.size (w5.alloc (Obj.cells (bA (sec f)) 32)).drew w') (by kernel_rfl) ?_
  change wpAnyH _ _ _ _ _ _ _ _ (World.drew _)
  generalize (w5.alloc (Obj.cells (bA (sec f)) 32)).drew = u0 at *
  have hS : Below u0.heap.size u0 u0 := Below.refl _ _
  refine takeH hS (i := 0) (d := 27) (v := .agg (frA f)) rfl rfl (by kernel_rfl) (by kernel_rfl) (by kernel_rfl) (fun _ _ _ h => h) (Or.inl ⟨by kernel_rfl, fun w' hw' => by exact exec_load _ rfl (w.heap.size) rfl (HF7.out.below hw' HF7.out.lt) Try.underlying24 rfl (info_frA HL.out)⟩) ?_
  refine takeH hS (i := 2) (d := 29) (v := .agg (frA f)) rfl rfl (by kernel_rfl) (by kernel_rfl) (by kernel_rfl) (fun _ _ _ h => h) (Or.inl ⟨by kernel_rfl, fun w' hw' => by exact exec_load _ rfl (w2.heap.size + 1) rfl (HQ7.out.below hw' HQ7.out.lt) Try.underlying30 rfl (info_rfA HL.out)⟩) ?_
  go_frame
  refine nextH (i := 1) rfl (by kernel_rfl) (by kernel_rfl) (fun K' hK => ?_)
  go_wp2_with fail
  refine (right_any f _).mono ?_
  rintro e u1 ⟨rfl, hbx⟩
  rw [Hr.out]
  have hS1 := bel_next hS hbx
  refine hK.out _ _ ⟨hS1, ?_⟩
  clear hK K' hbx
  refine nextH (i := 3) rfl (by kernel_rfl) (by kernel_rfl) (fun K' hK => ?_)
  go_wp2_with fail
  refine (rright_any f _).mono ?_
  rintro e u2 ⟨rfl, hbx⟩
  rw [Hr.out]
  have hS2 := bel_next hS1 hbx
  refine hK.out _ _ ⟨hS2, ?_⟩
  clear hK K' hbx
  refine takeH hS2 (i := 4) (d := 31) (v := .bool false) rfl rfl (by kernel_rfl) (by kernel_rfl) (by kernel_rfl) (fun _ _ _ h => h) (Or.inl ⟨by kernel_rfl, fun w' hw' => by kernel_rfl⟩) ?_
  refine wpAnyH_done (by kernel_rfl) ?_ _
  go_frame
  have HT8 := Lib.hid (HT7.out.below hS2 HT7.out.lt)
  have HF8 := Lib.hid (HF7.out.below hS2 HF7.out.lt)
  have HQ8 := Lib.hid (HQ7.out.below hS2 HQ7.out.lt)
  have HS8 := Lib.hid (HS7.out.below hS2 HS7.out.lt)
  have HB8 := Lib.hid (bthen HB7.out hS2)
  clear hS hS1 hS2 HT7 HF7 HQ7 HS7 HB7
  go_wp2_with (first | (refine wpl_load rfl _ rfl (w2.heap.size + 1) rfl _ _ _ HQ8.out Try.underlying30 rfl (info_rfA HL.out) ?_; go_frame))
  refine (rright_any f _).mono ?_
  rintro e w9 ⟨rfl, hb9⟩
  rw [Hr.out]
  have HT9 := Lib.hid (HT8.out.below hb9 HT8.out.lt)
  have HF9 := Lib.hid (HF8.out.below hb9 HF8.out.lt)
  have HQ9 := Lib.hid (HQ8.out.below hb9 HQ8.out.lt)
  have HS9 := Lib.hid (HS8.out.below hb9 HS8.out.lt)
  have HB9 := Lib.hid (bthen HB8.out hb9)
  clear hb9 HB8 HT8 HF8 HQ8 HS8
  have HSb : Hid (∀ c ∈ sec f, c < 256) := Lib.hid (sec_lt Hb.out)
  go_wp2_with (first | (refine wpl_load rfl _ rfl (w2.heap.size) rfl _ _ _ HT9.out Try.underlying28 rfl info_tbl ?_; go_frame) | (refine wpl_load rfl _ rfl (w5.heap.size) rfl _ _ _ HS9.out Try.underlying32 rfl (info_sec HSl.out) ?_; go_frame))
  refine (decode_any (sec f) _ HSl.out HSb.out).mono ?_
  rintro e w10 ⟨rfl, hb10⟩
  rw [HD1.out, HD2.out]
  have HT10 := Lib.hid (HT9.out.below hb10 HT9.out.lt)
  have HF10 := Lib.hid (HF9.out.below hb10 HF9.out.lt)
  have HQ10 := Lib.hid (HQ9.out.below hb10 HQ9.out.lt)
  have HS10 := Lib.hid (HS9.out.below hb10 HS9.out.lt)
  have HB10 := Lib.hid (bthen HB9.out hb10)
  clear hb10 HB9 HT9 HF9 HQ9 HS9
  have HG11 : Hid (Blk (w10.alloc (Obj.cells (frA f) 24)) w10.heap.size 24 (frA f)) := Lib.hid (Blk.new _ _ _)
  have HT11 := Lib.hid (HT10.out.alloc (Obj.cells (frA f) 24))
  have HF11 := Lib.hid (HF10.out.alloc (Obj.cells (frA f) 24))
  have HQ11 := Lib.hid (HQ10.out.alloc (Obj.cells (frA f) 24))
  have HS11 := Lib.hid (HS10.out.alloc (Obj.cells (frA f) 24))
  have HB11 := Lib.hid (bthen HB10.out (below_alloc w10 (Obj.cells (frA f) 24)))
  clear HB10 HT10 HF10 HQ10 HS10
  have c1 := (HF11.out.cell 1).trans (frA_at1 f)
  have c2 := (HF11.out.cell 2).trans (frA_at2 f)
  go_wp2_with (first | (refine wpl_store_new rfl _ _ rfl (frA (f)) w10 24 (frA fr0) rfl rfl rfl (info_frA HL.out) ((frA_size fr0_len).trans (frA_size HL.out).symm) frA_one ?_; go_frame) | (refine wpl_load rfl _ rfl (w2.heap.size) rfl _ _ _ HT11.out Try.underlying28 rfl info_tbl ?_; go_frame) | (refine wpl_load rfl _ rfl (w5.heap.size) rfl _ _ _ HS11.out Try.underlying32 rfl (info_sec HSl.out) ?_; go_frame))
  clear c1 c2
  generalize w10.alloc (Obj.cells (frA f) 24) = w11 at *
  refine (at_any (sec f) f.z f.o _ HSl.out HSb.out).mono ?_
  rintro e w12 ⟨rfl, hb12⟩
  rw [HA1.out, HA2.out]
  have HT12 := Lib.hid (HT11.out.below hb12 HT11.out.lt)
  have HF12 := Lib.hid (HF11.out.below hb12 HF11.out.lt)
  have HQ12 := Lib.hid (HQ11.out.below hb12 HQ11.out.lt)
  have HS12 := Lib.hid (HS11.out.below hb12 HS11.out.lt)
  have HG12 := Lib.hid (HG11.out.below hb12 HG11.out.lt)
  have HB12 := Lib.hid (bthen HB11.out hb12)
  clear hb12 HB11 HT11 HF11 HQ11 HS11 HG11
  have HY13 : Hid (Blk (w12.alloc (Obj.cells (frA f) 24)) w12.heap.size 24 (frA f)) := Lib.hid (Blk.new _ _ _)
  have HT13 := Lib.hid (HT12.out.alloc (Obj.cells (frA f) 24))
  have HF13 := Lib.hid (HF12.out.alloc (Obj.cells (frA f) 24))
  have HQ13 := Lib.hid (HQ12.out.alloc (Obj.cells (frA f) 24))
  have HS13 := Lib.hid (HS12.out.alloc (Obj.cells (frA f) 24))
  have HG13 := Lib.hid (HG12.out.alloc (Obj.cells (frA f) 24))
  have HB13 := Lib.hid (bthen HB12.out (below_alloc w12 (Obj.cells (frA f) 24)))
  clear HB12 HT12 HF12 HQ12 HS12 HG12
  go_wp2_with (first | (refine wpl_store_new rfl _ _ rfl (frA (f)) w12 24 (frA fr0) rfl rfl rfl (info_frA HL.out) ((frA_size fr0_len).trans (frA_size HL.out).symm) frA_one ?_; go_frame) | (refine wpl_load rfl _ rfl (w2.heap.size) rfl _ _ _ HT13.out Try.underlying28 rfl info_tbl ?_; go_frame) | (refine wpl_load rfl _ rfl (w5.heap.size) rfl _ _ _ HS13.out Try.underlying32 rfl (info_sec HSl.out) ?_; go_frame))
  generalize w12.alloc (Obj.cells (frA f) 24) = w13 at *
  refine (at_any (sec f) zn of _ HSl.out HSb.out).mono ?_
  rintro e w14 ⟨rfl, hb14⟩
  rw [HE.out, HX.out]
  clear HT13
  have HF14 := Lib.hid (HF13.out.below hb14 HF13.out.lt)
  have HQ14 := Lib.hid (HQ13.out.below hb14 HQ13.out.lt)
  have HS14 := Lib.hid (HS13.out.below hb14 HS13.out.lt)
  have HG14 := Lib.hid (HG13.out.below hb14 HG13.out.lt)
  have HY14 := Lib.hid (HY13.out.below hb14 HY13.out.lt)
  have HB14 := Lib.hid (bthen HB13.out hb14)
  clear hb14 HB13 HF13 HQ13 HS13 HG13 HY13
  have HZ15 : Hid (Blk (w14.alloc (Obj.cells (frA fr0) 24)) w14.heap.size 24 (frA fr0)) := Lib.hid (Blk.new _ _ _)
  have HF15 := Lib.hid (HF14.out.alloc (Obj.cells (frA fr0) 24))
  have HQ15 := Lib.hid (HQ14.out.alloc (Obj.cells (frA fr0) 24))
  have HS15 := Lib.hid (HS14.out.alloc (Obj.cells (frA fr0) 24))
  have HG15 := Lib.hid (HG14.out.alloc (Obj.cells (frA fr0) 24))
  have HY15 := Lib.hid (HY14.out.alloc (Obj.cells (frA fr0) 24))
  have HB15 := Lib.hid (bthen HB14.out (below_alloc w14 (Obj.cells (frA fr0) 24)))
  clear HB14 HF14 HQ14 HS14 HG14 HY14
  have c1 := (HF15.out.cell 1).trans (frA_at1 f)
  have c2 := (HF15.out.cell 2).trans (frA_at2 f)
  go_wp2_with (first | (refine wpl_store_new rfl _ _ rfl (frA (fr0)) w14 24 (frA fr0) rfl rfl rfl (info_frA fr0_len) ((frA_size fr0_len).trans (frA_size fr0_len).symm) frA_one ?_; go_frame) | (refine wpl_load_g (by rfl) _ rfl (w14.heap.size) rfl _ _ _ HZ15.out Try.underlying24 rfl (info_frA fr0_len) ?_; go_frame) | (refine wpl_build (by rfl) 24 _ rfl (.agg (frA fr0)) (fun _ => by kernel_rfl) ?_; go_frame) | (refine wpl_run (by rfl) (.bool false) (exec_neq_frame tyFr _ _ _ rfl (fr0) (fr0) rfl rfl fr0_len fr0_len false (neq_self fr0)) ?_; go_frame))
  clear c1 c2 hz3
  have HF16 : Hid (Blk (w14.alloc (Obj.cells (frA fr0) 24)).drew w.heap.size 24 (frA f)) := Lib.hid HF15.out
  have HQ16 : Hid (Blk (w14.alloc (Obj.cells (frA fr0) 24)).drew (w2.heap.size + 1) 30 (frA f)) := Lib.hid HQ15.out
  have HS16 : Hid (Blk (w14.alloc (Obj.cells (frA fr0) 24)).drew w5.heap.size 32 (bA (sec f))) := Lib.hid HS15.out
  have HG16 : Hid (Blk (w14.alloc (Obj.cells (frA fr0) 24)).drew w10.heap.size 24 (frA f)) := Lib.hid HG15.out
  have HY16 : Hid (Blk (w14.alloc (Obj.cells (frA fr0) 24)).drew w12.heap.size 24 (frA f)) := Lib.hid HY15.out
  have HB16 : Hid (Below w.heap.size w (w14.alloc (Obj.cells (frA fr0) 24)).drew) := Lib.hid HB15.out.drew
  clear HF15 HQ15 HS15 HG15 HY15 HB15 HZ15
  refine wp_region_held (S := fun w' => Below (w14.alloc (Obj.cells (frA fr0) 24)).drew.heap.size (w14.alloc (Obj.cells (frA fr0) 24)).drew w') (by kernel_rfl) ?_
  change wpAnyH _ _ _ _ _ _ _ _ (World.drew _)
  generalize (w14.alloc (Obj.cells (frA fr0) 24)).drew = u3 at *
  have hS : Below u3.heap.size u3 u3 := Below.refl _ _
  refine takeH hS (i := 0) (d := 90) (v := .int .i64 0) rfl rfl (by kernel_rfl) (by kernel_rfl) (by kernel_rfl) (fun _ _ _ h => h) (Or.inl ⟨by kernel_rfl, fun w' hw' => by kernel_rfl⟩) ?_
  refine takeH hS (i := 1) (d := 91) (v := .bool true) rfl rfl (by kernel_rfl) (by kernel_rfl) (by kernel_rfl) (fun _ _ _ h => h) (Or.inl ⟨by kernel_rfl, fun w' hw' => by kernel_rfl⟩) ?_
  refine takeH hS (i := 2) (d := 92) (v := .bool true) rfl rfl (by kernel_rfl) (by kernel_rfl) (by kernel_rfl) (fun _ _ _ h => h) (Or.inl ⟨by kernel_rfl, fun w' hw' => by kernel_rfl⟩) ?_
  refine takeH hS (i := 3) (d := 93) (v := .agg (bA (sec f))) rfl rfl (by kernel_rfl) (by kernel_rfl) (by kernel_rfl) (fun _ _ _ h => h) (Or.inl ⟨by kernel_rfl, fun w' hw' => by exact exec_load _ rfl (w5.heap.size) rfl (HS16.out.below hw' HS16.out.lt) Try.underlying32 rfl (info_sec HSl.out)⟩) ?_
  refine takeH hS (i := 4) (d := 94) (v := .agg (frA f)) rfl rfl (by kernel_rfl) (by kernel_rfl) (by kernel_rfl) (fun _ _ _ h => h) (Or.inl ⟨by kernel_rfl, fun w' hw' => by exact exec_load _ rfl (w2.heap.size + 1) rfl (HQ16.out.below hw' HQ16.out.lt) Try.underlying30 rfl (info_rfA HL.out)⟩) ?_
  go_frame
  refine nextH (i := 5) rfl (by kernel_rfl) (by kernel_rfl) (fun K' hK => ?_)
  go_wp2_with fail
  refine (rbytes_any f _ HL.out Hb.out Hr.out).mono ?_
  rintro e u4 ⟨rfl, hbx⟩
  have hS1 := bel_next hS hbx
  refine hK.out _ _ ⟨hS1, ?_⟩
  clear hK K' hbx
  refine takeH hS1 (i := 6) (d := 96) (v := .bool true) rfl rfl (by kernel_rfl) (by kernel_rfl) (by kernel_rfl) (fun _ _ _ h => h) (Or.inl ⟨by kernel_rfl, fun w' hw' => by exact exec_eql_sector ty64 _ _ _ rfl (sec f) (sec f) rfl rfl HSl.out HSl.out true (by simp)⟩) ?_
  refine takeH hS1 (i := 7) (d := 97) (v := .bool true) rfl rfl (by kernel_rfl) (by kernel_rfl) (by kernel_rfl) (fun _ _ _ h => h) (Or.inl ⟨by kernel_rfl, fun w' hw' => by kernel_rfl⟩) ?_
  refine takeH hS1 (i := 8) (d := 98) (v := .bool true) rfl rfl (by kernel_rfl) (by kernel_rfl) (by kernel_rfl) (fun _ _ _ h => h) (Or.inl ⟨by kernel_rfl, fun w' hw' => by kernel_rfl⟩) ?_
  go_frame
  refine takeH hS1 (i := 9) (d := 99) (v := .agg (frA f)) rfl rfl (by kernel_rfl) (by kernel_rfl) (by kernel_rfl) (fun _ _ _ h => h) (Or.inl ⟨by kernel_rfl, fun w' hw' => by exact exec_load _ rfl (w10.heap.size) rfl (HG16.out.below hw' HG16.out.lt) Try.underlying24 rfl (info_frA HL.out)⟩) ?_
  refine takeH hS1 (i := 10) (d := 100) (v := .agg (frA f)) rfl rfl (by kernel_rfl) (by kernel_rfl) (by kernel_rfl) (fun _ _ _ h => h) (Or.inl ⟨by kernel_rfl, fun w' hw' => by exact exec_load _ rfl (w.heap.size) rfl (HF16.out.below hw' HF16.out.lt) Try.underlying24 rfl (info_frA HL.out)⟩) ?_
  refine takeH hS1 (i := 11) (d := 101) (v := .bool true) rfl rfl (by kernel_rfl) (by kernel_rfl) (by kernel_rfl) (fun _ _ _ h => h) (Or.inl ⟨by kernel_rfl, fun w' hw' => by exact exec_eql_frame tyFr _ _ _ rfl f f rfl rfl HL.out HL.out true (eq_self f)⟩) ?_
  refine takeH hS1 (i := 12) (d := 102) (v := .bool true) rfl rfl (by kernel_rfl) (by kernel_rfl) (by kernel_rfl) (fun _ _ _ h => h) (Or.inl ⟨by kernel_rfl, fun w' hw' => by kernel_rfl⟩) ?_
  refine takeH hS1 (i := 13) (d := 103) (v := .bool true) rfl rfl (by kernel_rfl) (by kernel_rfl) (by kernel_rfl) (fun _ _ _ h => h) (Or.inl ⟨by kernel_rfl, fun w' hw' => by kernel_rfl⟩) ?_
  go_frame
  refine takeH hS1 (i := 14) (d := 104) (v := .int .i64 0) rfl rfl (by kernel_rfl) (by kernel_rfl) (by kernel_rfl) (fun _ _ _ h => h) (Or.inl ⟨by kernel_rfl, fun w' hw' => by kernel_rfl⟩) ?_
  refine takeH hS1 (i := 15) (d := 105) (v := .bool true) rfl rfl (by kernel_rfl) (by kernel_rfl) (by kernel_rfl) (fun _ _ _ h => h) (Or.inl ⟨by kernel_rfl, fun w' hw' => by kernel_rfl⟩) ?_
  refine takeH hS1 (i := 16) (d := 106) (v := .bool true) rfl rfl (by kernel_rfl) (by kernel_rfl) (by kernel_rfl) (fun _ _ _ h => h) (Or.inl ⟨by kernel_rfl, fun w' hw' => by kernel_rfl⟩) ?_
  refine takeH hS1 (i := 17) (d := 107) (v := .bool true) rfl rfl (by kernel_rfl) (by kernel_rfl) (by kernel_rfl) (fun _ _ _ h => h) (Or.inl ⟨by kernel_rfl, fun w' hw' => by kernel_rfl⟩) ?_
  go_frame
  refine takeH hS1 (i := 18) (d := 108) (v := .agg (frA f)) rfl rfl (by kernel_rfl) (by kernel_rfl) (by kernel_rfl) (fun _ _ _ h => h) (Or.inl ⟨by kernel_rfl, fun w' hw' => by exact exec_load _ rfl (w12.heap.size) rfl (HY16.out.below hw' HY16.out.lt) Try.underlying24 rfl (info_frA HL.out)⟩) ?_
  refine takeH hS1 (i := 19) (d := 109) (v := .agg (frA f)) rfl rfl (by kernel_rfl) (by kernel_rfl) (by kernel_rfl) (fun _ _ _ h => h) (Or.inl ⟨by kernel_rfl, fun w' hw' => by exact exec_load _ rfl (w.heap.size) rfl (HF16.out.below hw' HF16.out.lt) Try.underlying24 rfl (info_frA HL.out)⟩) ?_
  refine takeH hS1 (i := 20) (d := 110) (v := .bool true) rfl rfl (by kernel_rfl) (by kernel_rfl) (by kernel_rfl) (fun _ _ _ h => h) (Or.inl ⟨by kernel_rfl, fun w' hw' => by exact exec_eql_frame tyFr _ _ _ rfl f f rfl rfl HL.out HL.out true (eq_self f)⟩) ?_
  refine takeH hS1 (i := 21) (d := 111) (v := .bool true) rfl rfl (by kernel_rfl) (by kernel_rfl) (by kernel_rfl) (fun _ _ _ h => h) (Or.inl ⟨by kernel_rfl, fun w' hw' => by kernel_rfl⟩) ?_
  refine takeH hS1 (i := 22) (d := 112) (v := .bool true) rfl rfl (by kernel_rfl) (by kernel_rfl) (by kernel_rfl) (fun _ _ _ h => h) (Or.inl ⟨by kernel_rfl, fun w' hw' => by kernel_rfl⟩) ?_
  go_frame
  refine takeH hS1 (i := 23) (d := 113) (v := .int .i64 0) rfl rfl (by kernel_rfl) (by kernel_rfl) (by kernel_rfl) (fun _ _ _ h => h) (Or.inl ⟨by kernel_rfl, fun w' hw' => by kernel_rfl⟩) ?_
  refine takeH hS1 (i := 24) (d := 114) (v := .bool true) rfl rfl (by kernel_rfl) (by kernel_rfl) (by kernel_rfl) (fun _ _ _ h => h) (Or.inl ⟨by kernel_rfl, fun w' hw' => by kernel_rfl⟩) ?_
  refine takeH hS1 (i := 25) (d := 115) (v := .bool true) rfl rfl (by kernel_rfl) (by kernel_rfl) (by kernel_rfl) (fun _ _ _ h => h) (Or.inl ⟨by kernel_rfl, fun w' hw' => by kernel_rfl⟩) ?_
  refine takeH hS1 (i := 26) (d := 6) (v := .bool true) rfl rfl (by kernel_rfl) (by kernel_rfl) (by kernel_rfl) (fun _ _ _ h => h) (Or.inl ⟨by kernel_rfl, fun w' hw' => by kernel_rfl⟩) ?_
  refine wpAnyH_done (by kernel_rfl) ?_ _
  go_frame
  go_wp2_with fail
  go_ret
  exact ⟨rfl, bthen HB16.out hS1⟩

set_option maxRecDepth 100000 in
set_option maxHeartbeats 4000000 in
theorem walkEncodes_off (f : FrR) (zn of : Int) (w : World) (hl : f.b.length = 44) (hb : ∀ c ∈ f.b, c < 256) (hr : rightB f = true) (h1 : f.z = zn) (h2 : f.o ≠ of) :
    Calls Try.prog 3 #[.agg (frA f), .int .i64 zn, .int .i64 of] w fun e w' => e = .returned (.bool true) ∧ Below w.heap.size w w' := by
  have HL := Lib.hid hl
  have Hb := Lib.hid hb
  have Hr := Lib.hid hr
  have hz1 := zero_tab
  have hz2 := zero_sec
  have hz3 := zero_fr
  have HF0 : Hid (Blk (w.alloc (Obj.cells (frA f) 24)) w.heap.size 24 (frA f)) := Lib.hid (Blk.new w 24 (frA f))
  have HB0 : Hid (Below w.heap.size w (w.alloc (Obj.cells (frA f) 24))) := Lib.hid (below_alloc _ _)
  have HD1 : Hid (decE (sec f) = 0) := Lib.hid (dec_sec f hr hl hb).1
  have HD2 : Hid (decF (sec f) = f) := Lib.hid (dec_sec f hr hl hb).2
  have HA1 : Hid (atE (sec f) f.z f.o = 0) := Lib.hid ((at_sec f f.z f.o hr hl hb).1 ⟨rfl, rfl⟩).1
  have HA2 : Hid (atF (sec f) f.z f.o = f) := Lib.hid ((at_sec f f.z f.o hr hl hb).1 ⟨rfl, rfl⟩).2
  have HE : Hid (atE (sec f) zn of = 12) := Lib.hid ((at_sec f zn of hr hl hb).2 (fun h => h2 h.2)).1
  have HX : Hid (atF (sec f) zn of = fr0) := Lib.hid ((at_sec f zn of hr hl hb).2 (fun h => h2 h.2)).2
  have d1 : (zn != f.z) = false := by rw [h1]; simp
  have d2 : (of != f.o) = true := by rw [bne_iff_ne]; exact fun e => h2 e.symm
  clear h1 h2
  clear hl hb hr
  go_enter Try.func3, Try.ntmps3
  go_wp2_with fail
  refine (anchor3_any _).mono ?_
  rintro e w1 ⟨rfl, hb1⟩
  have HF1 := Lib.hid (HF0.out.below hb1 HF0.out.lt)
  have HB1 := Lib.hid (bthen HB0.out hb1)
  clear hb1 HB0 HF0
  go_wp2_with fail
  refine (new_any _).mono ?_
  rintro e w2 ⟨rfl, hb2⟩
  have HT3 : Hid (Blk (w2.alloc (Obj.cells tbl 28)) w2.heap.size 28 tbl) := Lib.hid (Blk.new _ _ _)
  have HF3 := Lib.hid ((HF1.out.below hb2 HF1.out.lt).alloc (Obj.cells tbl 28))
  have HB3 : Hid (Below w.heap.size w (w2.alloc (Obj.cells tbl 28))) := Lib.hid (bthen (bthen HB1.out hb2) (below_alloc _ _))
  clear hb2 HB1 HF1
  have hz4 := zero_rf
  have HQ4 : Hid (Blk ((w2.alloc (Obj.cells tbl 28)).alloc (Obj.cells (frA f) 30)) (w2.heap.size + 1) 30 (frA f)) := Lib.hid (by
    have h := Blk.new (w2.alloc (Obj.cells tbl 28)) 30 (frA f)
    rwa [show (w2.alloc (Obj.cells tbl 28)).heap.size = w2.heap.size + 1 by simp] at h)
  have HT4 := Lib.hid (HT3.out.alloc (Obj.cells (frA f) 30))
  have HF4 := Lib.hid (HF3.out.alloc (Obj.cells (frA f) 30))
  have HB4 := Lib.hid (bthen HB3.out (below_alloc (w2.alloc (Obj.cells tbl 28)) (Obj.cells (frA f) 30)))
  go_wp2_with (first | (refine wpl_store_new rfl _ _ rfl (tbl) w2 28 (pt 0) rfl rfl rfl info_tbl (by rw [pt_size, tbl_size]) tbl_cells ?_; go_frame) | (refine wpl_load rfl _ rfl (w2.heap.size) rfl _ _ _ HT3.out Try.underlying28 rfl info_tbl ?_; go_frame) | (refine wpl_load rfl _ rfl (w.heap.size) rfl _ _ _ HF3.out Try.underlying24 rfl (info_frA HL.out) ?_; go_frame) | (refine wpl_store_newI (w2.heap.size + 1) rfl _ _ rfl (frA f) (w2.alloc (Obj.cells tbl 28)) (by simp) 30 (frA fr0) rfl rfl rfl (info_rfA HL.out) ((frA_size fr0_len).trans (frA_size HL.out).symm) frA_one ?_; go_frame) | (refine wpl_load rfl _ rfl (w2.heap.size) rfl _ _ _ HT4.out Try.underlying28 rfl info_tbl ?_; go_frame) | (refine wpl_load rfl _ rfl (w.heap.size) rfl _ _ _ HF4.out Try.underlying24 rfl (info_frA HL.out) ?_; go_frame))
  clear hz1 HT3 HF3 HB3
  generalize (w2.alloc (Obj.cells tbl 28)).alloc (Obj.cells (frA f) 30) = w4 at *
  refine (encode_ok f _ HL.out Hb.out Hr.out).mono ?_
  rintro e w5 ⟨rfl, hb5⟩
  have HSl : Hid ((sec f).length = 64) := Lib.hid (sec_length HL.out)
  have HT5 := Lib.hid (HT4.out.below hb5 HT4.out.lt)
  have HF5 := Lib.hid (HF4.out.below hb5 HF4.out.lt)
  have HQ5 := Lib.hid (HQ4.out.below hb5 HQ4.out.lt)
  have HB5 := Lib.hid (bthen HB4.out hb5)
  clear hb5 HB4 HT4 HF4 HQ4
  have HS6 : Hid (Blk (w5.alloc (Obj.cells (bA (sec f)) 32)) w5.heap.size 32 (bA (sec f))) := Lib.hid (Blk.new _ _ _)
  have HT6 := Lib.hid (HT5.out.alloc (Obj.cells (bA (sec f)) 32))
  have HF6 := Lib.hid (HF5.out.alloc (Obj.cells (bA (sec f)) 32))
  have HQ6 := Lib.hid (HQ5.out.alloc (Obj.cells (bA (sec f)) 32))
  have HB6 := Lib.hid (bthen HB5.out (below_alloc w5 (Obj.cells (bA (sec f)) 32)))
  clear HB5 HT5 HF5 HQ5
  go_wp2_with (first | (refine wpl_store_new rfl _ _ rfl (bA (sec f)) w5 32 (bA (zeros 64)) rfl rfl rfl (info_sec HSl.out) ((bA_size _).trans ((zeros_length 64).trans ((bA_size _).trans HSl.out).symm)) (bA_one _) ?_; go_frame))
  have HT7 : Hid (Blk (w5.alloc (Obj.cells (bA (sec f)) 32)).drew w2.heap.size 28 tbl) := Lib.hid HT6.out
  have HF7 : Hid (Blk (w5.alloc (Obj.cells (bA (sec f)) 32)).drew w.heap.size 24 (frA f)) := Lib.hid HF6.out
  have HQ7 : Hid (Blk (w5.alloc (Obj.cells (bA (sec f)) 32)).drew (w2.heap.size + 1) 30 (frA f)) := Lib.hid HQ6.out
  have HS7 : Hid (Blk (w5.alloc (Obj.cells (bA (sec f)) 32)).drew w5.heap.size 32 (bA (sec f))) := Lib.hid HS6.out
  have HB7 : Hid (Below w.heap.size w (w5.alloc (Obj.cells (bA (sec f)) 32)).drew) := Lib.hid HB6.out.drew
  clear HT6 HF6 HQ6 HS6 HB6 hz2 hz4
  refine wp_region_held (S := fun w' => Below (w5.alloc (Obj.cells (bA (sec f)) 32)).drew.heap.size (w5.alloc (Obj.cells (bA (sec f)) 32)).drew w') (by kernel_rfl) ?_
  change wpAnyH _ _ _ _ _ _ _ _ (World.drew _)
  generalize (w5.alloc (Obj.cells (bA (sec f)) 32)).drew = u0 at *
  have hS : Below u0.heap.size u0 u0 := Below.refl _ _
  refine takeH hS (i := 0) (d := 27) (v := .agg (frA f)) rfl rfl (by kernel_rfl) (by kernel_rfl) (by kernel_rfl) (fun _ _ _ h => h) (Or.inl ⟨by kernel_rfl, fun w' hw' => by exact exec_load _ rfl (w.heap.size) rfl (HF7.out.below hw' HF7.out.lt) Try.underlying24 rfl (info_frA HL.out)⟩) ?_
  refine takeH hS (i := 2) (d := 29) (v := .agg (frA f)) rfl rfl (by kernel_rfl) (by kernel_rfl) (by kernel_rfl) (fun _ _ _ h => h) (Or.inl ⟨by kernel_rfl, fun w' hw' => by exact exec_load _ rfl (w2.heap.size + 1) rfl (HQ7.out.below hw' HQ7.out.lt) Try.underlying30 rfl (info_rfA HL.out)⟩) ?_
  go_frame
  refine nextH (i := 1) rfl (by kernel_rfl) (by kernel_rfl) (fun K' hK => ?_)
  go_wp2_with fail
  refine (right_any f _).mono ?_
  rintro e u1 ⟨rfl, hbx⟩
  rw [Hr.out]
  have hS1 := bel_next hS hbx
  refine hK.out _ _ ⟨hS1, ?_⟩
  clear hK K' hbx
  refine nextH (i := 3) rfl (by kernel_rfl) (by kernel_rfl) (fun K' hK => ?_)
  go_wp2_with fail
  refine (rright_any f _).mono ?_
  rintro e u2 ⟨rfl, hbx⟩
  rw [Hr.out]
  have hS2 := bel_next hS1 hbx
  refine hK.out _ _ ⟨hS2, ?_⟩
  clear hK K' hbx
  refine takeH hS2 (i := 4) (d := 31) (v := .bool false) rfl rfl (by kernel_rfl) (by kernel_rfl) (by kernel_rfl) (fun _ _ _ h => h) (Or.inl ⟨by kernel_rfl, fun w' hw' => by kernel_rfl⟩) ?_
  refine wpAnyH_done (by kernel_rfl) ?_ _
  go_frame
  have HT8 := Lib.hid (HT7.out.below hS2 HT7.out.lt)
  have HF8 := Lib.hid (HF7.out.below hS2 HF7.out.lt)
  have HQ8 := Lib.hid (HQ7.out.below hS2 HQ7.out.lt)
  have HS8 := Lib.hid (HS7.out.below hS2 HS7.out.lt)
  have HB8 := Lib.hid (bthen HB7.out hS2)
  clear hS hS1 hS2 HT7 HF7 HQ7 HS7 HB7
  go_wp2_with (first | (refine wpl_load rfl _ rfl (w2.heap.size + 1) rfl _ _ _ HQ8.out Try.underlying30 rfl (info_rfA HL.out) ?_; go_frame))
  refine (rright_any f _).mono ?_
  rintro e w9 ⟨rfl, hb9⟩
  rw [Hr.out]
  have HT9 := Lib.hid (HT8.out.below hb9 HT8.out.lt)
  have HF9 := Lib.hid (HF8.out.below hb9 HF8.out.lt)
  have HQ9 := Lib.hid (HQ8.out.below hb9 HQ8.out.lt)
  have HS9 := Lib.hid (HS8.out.below hb9 HS8.out.lt)
  have HB9 := Lib.hid (bthen HB8.out hb9)
  clear hb9 HB8 HT8 HF8 HQ8 HS8
  have HSb : Hid (∀ c ∈ sec f, c < 256) := Lib.hid (sec_lt Hb.out)
  go_wp2_with (first | (refine wpl_load rfl _ rfl (w2.heap.size) rfl _ _ _ HT9.out Try.underlying28 rfl info_tbl ?_; go_frame) | (refine wpl_load rfl _ rfl (w5.heap.size) rfl _ _ _ HS9.out Try.underlying32 rfl (info_sec HSl.out) ?_; go_frame))
  refine (decode_any (sec f) _ HSl.out HSb.out).mono ?_
  rintro e w10 ⟨rfl, hb10⟩
  rw [HD1.out, HD2.out]
  have HT10 := Lib.hid (HT9.out.below hb10 HT9.out.lt)
  have HF10 := Lib.hid (HF9.out.below hb10 HF9.out.lt)
  have HQ10 := Lib.hid (HQ9.out.below hb10 HQ9.out.lt)
  have HS10 := Lib.hid (HS9.out.below hb10 HS9.out.lt)
  have HB10 := Lib.hid (bthen HB9.out hb10)
  clear hb10 HB9 HT9 HF9 HQ9 HS9
  have HG11 : Hid (Blk (w10.alloc (Obj.cells (frA f) 24)) w10.heap.size 24 (frA f)) := Lib.hid (Blk.new _ _ _)
  have HT11 := Lib.hid (HT10.out.alloc (Obj.cells (frA f) 24))
  have HF11 := Lib.hid (HF10.out.alloc (Obj.cells (frA f) 24))
  have HQ11 := Lib.hid (HQ10.out.alloc (Obj.cells (frA f) 24))
  have HS11 := Lib.hid (HS10.out.alloc (Obj.cells (frA f) 24))
  have HB11 := Lib.hid (bthen HB10.out (below_alloc w10 (Obj.cells (frA f) 24)))
  clear HB10 HT10 HF10 HQ10 HS10
  have c1 := (HF11.out.cell 1).trans (frA_at1 f)
  have c2 := (HF11.out.cell 2).trans (frA_at2 f)
  go_wp2_with (first | (refine wpl_store_new rfl _ _ rfl (frA (f)) w10 24 (frA fr0) rfl rfl rfl (info_frA HL.out) ((frA_size fr0_len).trans (frA_size HL.out).symm) frA_one ?_; go_frame) | (refine wpl_load rfl _ rfl (w2.heap.size) rfl _ _ _ HT11.out Try.underlying28 rfl info_tbl ?_; go_frame) | (refine wpl_load rfl _ rfl (w5.heap.size) rfl _ _ _ HS11.out Try.underlying32 rfl (info_sec HSl.out) ?_; go_frame))
  clear c1 c2
  generalize w10.alloc (Obj.cells (frA f) 24) = w11 at *
  refine (at_any (sec f) f.z f.o _ HSl.out HSb.out).mono ?_
  rintro e w12 ⟨rfl, hb12⟩
  rw [HA1.out, HA2.out]
  have HT12 := Lib.hid (HT11.out.below hb12 HT11.out.lt)
  have HF12 := Lib.hid (HF11.out.below hb12 HF11.out.lt)
  have HQ12 := Lib.hid (HQ11.out.below hb12 HQ11.out.lt)
  have HS12 := Lib.hid (HS11.out.below hb12 HS11.out.lt)
  have HG12 := Lib.hid (HG11.out.below hb12 HG11.out.lt)
  have HB12 := Lib.hid (bthen HB11.out hb12)
  clear hb12 HB11 HT11 HF11 HQ11 HS11 HG11
  have HY13 : Hid (Blk (w12.alloc (Obj.cells (frA f) 24)) w12.heap.size 24 (frA f)) := Lib.hid (Blk.new _ _ _)
  have HT13 := Lib.hid (HT12.out.alloc (Obj.cells (frA f) 24))
  have HF13 := Lib.hid (HF12.out.alloc (Obj.cells (frA f) 24))
  have HQ13 := Lib.hid (HQ12.out.alloc (Obj.cells (frA f) 24))
  have HS13 := Lib.hid (HS12.out.alloc (Obj.cells (frA f) 24))
  have HG13 := Lib.hid (HG12.out.alloc (Obj.cells (frA f) 24))
  have HB13 := Lib.hid (bthen HB12.out (below_alloc w12 (Obj.cells (frA f) 24)))
  clear HB12 HT12 HF12 HQ12 HS12 HG12
  go_wp2_with (first | (refine wpl_store_new rfl _ _ rfl (frA (f)) w12 24 (frA fr0) rfl rfl rfl (info_frA HL.out) ((frA_size fr0_len).trans (frA_size HL.out).symm) frA_one ?_; go_frame) | (refine wpl_load rfl _ rfl (w2.heap.size) rfl _ _ _ HT13.out Try.underlying28 rfl info_tbl ?_; go_frame) | (refine wpl_load rfl _ rfl (w5.heap.size) rfl _ _ _ HS13.out Try.underlying32 rfl (info_sec HSl.out) ?_; go_frame))
  generalize w12.alloc (Obj.cells (frA f) 24) = w13 at *
  refine (at_any (sec f) zn of _ HSl.out HSb.out).mono ?_
  rintro e w14 ⟨rfl, hb14⟩
  rw [HE.out, HX.out]
  clear HT13
  have HF14 := Lib.hid (HF13.out.below hb14 HF13.out.lt)
  have HQ14 := Lib.hid (HQ13.out.below hb14 HQ13.out.lt)
  have HS14 := Lib.hid (HS13.out.below hb14 HS13.out.lt)
  have HG14 := Lib.hid (HG13.out.below hb14 HG13.out.lt)
  have HY14 := Lib.hid (HY13.out.below hb14 HY13.out.lt)
  have HB14 := Lib.hid (bthen HB13.out hb14)
  clear hb14 HB13 HF13 HQ13 HS13 HG13 HY13
  have HZ15 : Hid (Blk (w14.alloc (Obj.cells (frA fr0) 24)) w14.heap.size 24 (frA fr0)) := Lib.hid (Blk.new _ _ _)
  have HF15 := Lib.hid (HF14.out.alloc (Obj.cells (frA fr0) 24))
  have HQ15 := Lib.hid (HQ14.out.alloc (Obj.cells (frA fr0) 24))
  have HS15 := Lib.hid (HS14.out.alloc (Obj.cells (frA fr0) 24))
  have HG15 := Lib.hid (HG14.out.alloc (Obj.cells (frA fr0) 24))
  have HY15 := Lib.hid (HY14.out.alloc (Obj.cells (frA fr0) 24))
  have HB15 := Lib.hid (bthen HB14.out (below_alloc w14 (Obj.cells (frA fr0) 24)))
  clear HB14 HF14 HQ14 HS14 HG14 HY14
  have c1 := (HF15.out.cell 1).trans (frA_at1 f)
  have c2 := (HF15.out.cell 2).trans (frA_at2 f)
  go_wp2_with (first | (refine wpl_store_new rfl _ _ rfl (frA (fr0)) w14 24 (frA fr0) rfl rfl rfl (info_frA fr0_len) ((frA_size fr0_len).trans (frA_size fr0_len).symm) frA_one ?_; go_frame) | (refine wpl_load_g (by rfl) _ rfl (w14.heap.size) rfl _ _ _ HZ15.out Try.underlying24 rfl (info_frA fr0_len) ?_; go_frame) | (refine wpl_build (by rfl) 24 _ rfl (.agg (frA fr0)) (fun _ => by kernel_rfl) ?_; go_frame) | (refine wpl_run (by rfl) (.bool false) (exec_neq_frame tyFr _ _ _ rfl (fr0) (fr0) rfl rfl fr0_len fr0_len false (neq_self fr0)) ?_; go_frame))
  clear c1 c2 hz3
  have HF16 : Hid (Blk (w14.alloc (Obj.cells (frA fr0) 24)).drew w.heap.size 24 (frA f)) := Lib.hid HF15.out
  have HQ16 : Hid (Blk (w14.alloc (Obj.cells (frA fr0) 24)).drew (w2.heap.size + 1) 30 (frA f)) := Lib.hid HQ15.out
  have HS16 : Hid (Blk (w14.alloc (Obj.cells (frA fr0) 24)).drew w5.heap.size 32 (bA (sec f))) := Lib.hid HS15.out
  have HG16 : Hid (Blk (w14.alloc (Obj.cells (frA fr0) 24)).drew w10.heap.size 24 (frA f)) := Lib.hid HG15.out
  have HY16 : Hid (Blk (w14.alloc (Obj.cells (frA fr0) 24)).drew w12.heap.size 24 (frA f)) := Lib.hid HY15.out
  have HB16 : Hid (Below w.heap.size w (w14.alloc (Obj.cells (frA fr0) 24)).drew) := Lib.hid HB15.out.drew
  clear HF15 HQ15 HS15 HG15 HY15 HB15 HZ15
  refine wp_region_held (S := fun w' => Below (w14.alloc (Obj.cells (frA fr0) 24)).drew.heap.size (w14.alloc (Obj.cells (frA fr0) 24)).drew w') (by kernel_rfl) ?_
  change wpAnyH _ _ _ _ _ _ _ _ (World.drew _)
  generalize (w14.alloc (Obj.cells (frA fr0) 24)).drew = u3 at *
  have hS : Below u3.heap.size u3 u3 := Below.refl _ _
  refine takeH hS (i := 0) (d := 90) (v := .int .i64 0) rfl rfl (by kernel_rfl) (by kernel_rfl) (by kernel_rfl) (fun _ _ _ h => h) (Or.inl ⟨by kernel_rfl, fun w' hw' => by kernel_rfl⟩) ?_
  refine takeH hS (i := 1) (d := 91) (v := .bool true) rfl rfl (by kernel_rfl) (by kernel_rfl) (by kernel_rfl) (fun _ _ _ h => h) (Or.inl ⟨by kernel_rfl, fun w' hw' => by kernel_rfl⟩) ?_
  refine takeH hS (i := 2) (d := 92) (v := .bool true) rfl rfl (by kernel_rfl) (by kernel_rfl) (by kernel_rfl) (fun _ _ _ h => h) (Or.inl ⟨by kernel_rfl, fun w' hw' => by kernel_rfl⟩) ?_
  refine takeH hS (i := 3) (d := 93) (v := .agg (bA (sec f))) rfl rfl (by kernel_rfl) (by kernel_rfl) (by kernel_rfl) (fun _ _ _ h => h) (Or.inl ⟨by kernel_rfl, fun w' hw' => by exact exec_load _ rfl (w5.heap.size) rfl (HS16.out.below hw' HS16.out.lt) Try.underlying32 rfl (info_sec HSl.out)⟩) ?_
  refine takeH hS (i := 4) (d := 94) (v := .agg (frA f)) rfl rfl (by kernel_rfl) (by kernel_rfl) (by kernel_rfl) (fun _ _ _ h => h) (Or.inl ⟨by kernel_rfl, fun w' hw' => by exact exec_load _ rfl (w2.heap.size + 1) rfl (HQ16.out.below hw' HQ16.out.lt) Try.underlying30 rfl (info_rfA HL.out)⟩) ?_
  go_frame
  refine nextH (i := 5) rfl (by kernel_rfl) (by kernel_rfl) (fun K' hK => ?_)
  go_wp2_with fail
  refine (rbytes_any f _ HL.out Hb.out Hr.out).mono ?_
  rintro e u4 ⟨rfl, hbx⟩
  have hS1 := bel_next hS hbx
  refine hK.out _ _ ⟨hS1, ?_⟩
  clear hK K' hbx
  refine takeH hS1 (i := 6) (d := 96) (v := .bool true) rfl rfl (by kernel_rfl) (by kernel_rfl) (by kernel_rfl) (fun _ _ _ h => h) (Or.inl ⟨by kernel_rfl, fun w' hw' => by exact exec_eql_sector ty64 _ _ _ rfl (sec f) (sec f) rfl rfl HSl.out HSl.out true (by simp)⟩) ?_
  refine takeH hS1 (i := 7) (d := 97) (v := .bool true) rfl rfl (by kernel_rfl) (by kernel_rfl) (by kernel_rfl) (fun _ _ _ h => h) (Or.inl ⟨by kernel_rfl, fun w' hw' => by kernel_rfl⟩) ?_
  refine takeH hS1 (i := 8) (d := 98) (v := .bool true) rfl rfl (by kernel_rfl) (by kernel_rfl) (by kernel_rfl) (fun _ _ _ h => h) (Or.inl ⟨by kernel_rfl, fun w' hw' => by kernel_rfl⟩) ?_
  go_frame
  refine takeH hS1 (i := 9) (d := 99) (v := .agg (frA f)) rfl rfl (by kernel_rfl) (by kernel_rfl) (by kernel_rfl) (fun _ _ _ h => h) (Or.inl ⟨by kernel_rfl, fun w' hw' => by exact exec_load _ rfl (w10.heap.size) rfl (HG16.out.below hw' HG16.out.lt) Try.underlying24 rfl (info_frA HL.out)⟩) ?_
  refine takeH hS1 (i := 10) (d := 100) (v := .agg (frA f)) rfl rfl (by kernel_rfl) (by kernel_rfl) (by kernel_rfl) (fun _ _ _ h => h) (Or.inl ⟨by kernel_rfl, fun w' hw' => by exact exec_load _ rfl (w.heap.size) rfl (HF16.out.below hw' HF16.out.lt) Try.underlying24 rfl (info_frA HL.out)⟩) ?_
  refine takeH hS1 (i := 11) (d := 101) (v := .bool true) rfl rfl (by kernel_rfl) (by kernel_rfl) (by kernel_rfl) (fun _ _ _ h => h) (Or.inl ⟨by kernel_rfl, fun w' hw' => by exact exec_eql_frame tyFr _ _ _ rfl f f rfl rfl HL.out HL.out true (eq_self f)⟩) ?_
  refine takeH hS1 (i := 12) (d := 102) (v := .bool true) rfl rfl (by kernel_rfl) (by kernel_rfl) (by kernel_rfl) (fun _ _ _ h => h) (Or.inl ⟨by kernel_rfl, fun w' hw' => by kernel_rfl⟩) ?_
  refine takeH hS1 (i := 13) (d := 103) (v := .bool true) rfl rfl (by kernel_rfl) (by kernel_rfl) (by kernel_rfl) (fun _ _ _ h => h) (Or.inl ⟨by kernel_rfl, fun w' hw' => by kernel_rfl⟩) ?_
  go_frame
  refine takeH hS1 (i := 14) (d := 104) (v := .int .i64 0) rfl rfl (by kernel_rfl) (by kernel_rfl) (by kernel_rfl) (fun _ _ _ h => h) (Or.inl ⟨by kernel_rfl, fun w' hw' => by kernel_rfl⟩) ?_
  refine takeH hS1 (i := 15) (d := 105) (v := .bool true) rfl rfl (by kernel_rfl) (by kernel_rfl) (by kernel_rfl) (fun _ _ _ h => h) (Or.inl ⟨by kernel_rfl, fun w' hw' => by kernel_rfl⟩) ?_
  refine takeH hS1 (i := 16) (d := 106) (v := .bool true) rfl rfl (by kernel_rfl) (by kernel_rfl) (by kernel_rfl) (fun _ _ _ h => h) (Or.inl ⟨by kernel_rfl, fun w' hw' => by kernel_rfl⟩) ?_
  refine takeH hS1 (i := 17) (d := 107) (v := .bool true) rfl rfl (by kernel_rfl) (by kernel_rfl) (by kernel_rfl) (fun _ _ _ h => h) (Or.inl ⟨by kernel_rfl, fun w' hw' => by kernel_rfl⟩) ?_
  go_frame
  refine takeH hS1 (i := 18) (d := 108) (v := .agg (frA f)) rfl rfl (by kernel_rfl) (by kernel_rfl) (by kernel_rfl) (fun _ _ _ h => h) (Or.inl ⟨by kernel_rfl, fun w' hw' => by exact exec_load _ rfl (w12.heap.size) rfl (HY16.out.below hw' HY16.out.lt) Try.underlying24 rfl (info_frA HL.out)⟩) ?_
  refine takeH hS1 (i := 19) (d := 109) (v := .agg (frA f)) rfl rfl (by kernel_rfl) (by kernel_rfl) (by kernel_rfl) (fun _ _ _ h => h) (Or.inl ⟨by kernel_rfl, fun w' hw' => by exact exec_load _ rfl (w.heap.size) rfl (HF16.out.below hw' HF16.out.lt) Try.underlying24 rfl (info_frA HL.out)⟩) ?_
  refine takeH hS1 (i := 20) (d := 110) (v := .bool true) rfl rfl (by kernel_rfl) (by kernel_rfl) (by kernel_rfl) (fun _ _ _ h => h) (Or.inl ⟨by kernel_rfl, fun w' hw' => by exact exec_eql_frame tyFr _ _ _ rfl f f rfl rfl HL.out HL.out true (eq_self f)⟩) ?_
  refine takeH hS1 (i := 21) (d := 111) (v := .bool true) rfl rfl (by kernel_rfl) (by kernel_rfl) (by kernel_rfl) (fun _ _ _ h => h) (Or.inl ⟨by kernel_rfl, fun w' hw' => by kernel_rfl⟩) ?_
  refine takeH hS1 (i := 22) (d := 112) (v := .bool true) rfl rfl (by kernel_rfl) (by kernel_rfl) (by kernel_rfl) (fun _ _ _ h => h) (Or.inl ⟨by kernel_rfl, fun w' hw' => by kernel_rfl⟩) ?_
  go_frame
  refine takeH hS1 (i := 23) (d := 113) (v := .int .i64 0) rfl rfl (by kernel_rfl) (by kernel_rfl) (by kernel_rfl) (fun _ _ _ h => h) (Or.inl ⟨by kernel_rfl, fun w' hw' => by kernel_rfl⟩) ?_
  refine takeH hS1 (i := 24) (d := 114) (v := .bool true) rfl rfl (by kernel_rfl) (by kernel_rfl) (by kernel_rfl) (fun _ _ _ h => h) (Or.inl ⟨by kernel_rfl, fun w' hw' => by kernel_rfl⟩) ?_
  refine takeH hS1 (i := 25) (d := 115) (v := .bool true) rfl rfl (by kernel_rfl) (by kernel_rfl) (by kernel_rfl) (fun _ _ _ h => h) (Or.inl ⟨by kernel_rfl, fun w' hw' => by kernel_rfl⟩) ?_
  refine takeH hS1 (i := 26) (d := 6) (v := .bool true) rfl rfl (by kernel_rfl) (by kernel_rfl) (by kernel_rfl) (fun _ _ _ h => h) (Or.inl ⟨by kernel_rfl, fun w' hw' => by kernel_rfl⟩) ?_
  refine wpAnyH_done (by kernel_rfl) ?_ _
  go_frame
  go_wp2_with fail
  go_ret
  exact ⟨rfl, bthen HB16.out hS1⟩

theorem walkFrameEncodes (f : FrR) (zn of : Int) (w : World) (hf : FrOk f) (hz : (Lit.int .i64 zn).wf = true) (ho : (Lit.int .i64 of).wf = true) :
    Calls Try.prog 3 #[.agg (frA f), .int .i64 zn, .int .i64 of] w fun e w' => e = .returned (.bool true) ∧ Below w.heap.size w w' := by
  cases hr : rightB f with
  | false => exact walkEncodes_bad f zn of w hf.len hf.lt hr
  | true =>
    by_cases h1 : f.z = zn
    · by_cases h2 : f.o = of
      · exact walkEncodes_own f zn of w hf.len hf.lt hr h1 h2
      · exact walkEncodes_off f zn of w hf.len hf.lt hr h1 h2
    · exact walkEncodes_zone f zn of w hf.len hf.lt hr h1

end Go.Proofs.Ytlkghdgomfcfkaa
