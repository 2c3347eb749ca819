/-
  Layer 4 (entry), eighth part: the document's Of.
-/
import Derived.Test.YtdjnfikacjfkkaaEntryH
import Derived.OrdersHeld
import Derived.Deep.RegionHeld
namespace Go.Proofs.Ytdjnfikacjfkkaa
open Go.RowKit CrcM
set_option linter.unusedVariables false
set_option linter.unnecessarySimpa false
set_option linter.unusedSimpArgs false

/-- What a body says, all of it, right or not. -/
def doc (k : Int) (bs : List Nat) : EnR := ⟨k, (num (bs.take 6) : Nat), (num ((bs.drop 6).take 1) : Nat), (num ((bs.drop 7).take 1) : Nat), (num ((bs.drop 8).take 2) : Nat), (num ((bs.drop 10).take 2) : Nat), (bs.drop 12).take 32⟩
theorem doc_len {k : Int} {bs : List Nat} (h : bs.length = 44) : (doc k bs).y.length = 32 := by simp [doc, h]
theorem doc_lt {k : Int} {bs : List Nat} (h : ∀ c ∈ bs, c < 256) : ∀ c ∈ (doc k bs).y, c < 256 := fun c hc => h c (List.mem_of_mem_drop (List.mem_of_mem_take hc))

theorem row_midN {w : World} {g n : Nat} {bs : List Nat} (h : RowB w (some ⟨g, 0, none⟩) n n bs) (lo hi : Nat) (h1 : lo ≤ hi) (h2 : hi < n) : RowB w (some ⟨g, lo, none⟩) (hi - lo) (n - lo) ((bs.drop lo).take (hi - lo)) := by
  have h3 := (h.from lo (by omega)).to (hi - lo) (by omega)
  have e : slAddr (some ⟨g, 0, none⟩) n lo = some ⟨g, lo, none⟩ := by unfold slAddr; rw [if_neg (by omega)]; simp [Addr.add_mid]
  rw [e] at h3
  exact h3

theorem enA_setY (e : EnR) (j c : Nat) (hj : j < e.y.length) : (enA e).setIfInBounds (6 + j) (.int .u8 (c : Nat)) = enA { e with y := e.y.set j c } := by
  unfold enA mixA mixL enZ
  rw [List.setIfInBounds_toArray, List.set_append_right _ _ (by simp), ← bvals_set]
  simp

/-- Is a body an entry's of a kind, by the document? -/
def rofB (k : Int) (bs : List Nat) : Bool := rB (doc k bs)
def rofV (k : Int) (bs : List Nat) : EnR := if rofB k bs = true then doc k bs else en0
theorem rofV_ok {k : Int} {bs : List Nat} (h : rofB k bs = true) : rofV k bs = doc k bs := if_pos h
theorem rofV_bad {k : Int} {bs : List Nat} (h : rofB k bs = false) : rofV k bs = en0 := if_neg (by rw [h]; decide)

/-- What the document's Of tells. -/
def RofP (e : EnR) (b : Bool) (w : World) (en : Ending) (w' : World) : Prop := en = .returned (.tuple #[.agg (enA e), .bool b]) ∧ Below w.heap.size w w'

set_option maxRecDepth 100000 in
set_option maxHeartbeats 4000000 in
theorem rof4_any (k : Int) (bs : List Nat) (w : World) (hl : bs.length = 44) (hb : ∀ c ∈ bs, c < 256) :
    Calls Try.prog 16 #[.int .i64 k, .agg (bA bs)] w (RofP (rofV k bs) (rofB k bs) w) := by
  have HL := Lib.hid hl
  have Hb := Lib.hid hb
  have hz := zero_e4
  have s1 := run_slice_44z
  have hX : Blk ((w.alloc (Obj.cells (bA bs) 26)).alloc (Obj.cells (enA en0) 32)) w.heap.size 26 (bA bs) := Blk.alloc (Blk.new w 26 (bA bs)) _
  have HX0 := Lib.hid hX
  have HR0 : Hid (RowB ((w.alloc (Obj.cells (bA bs) 26)).alloc (Obj.cells (enA en0) 32)) (some ⟨w.heap.size, 0, none⟩) 44 44 bs) := Lib.hid (row_of_blk hX hb 44 hl (by decide))
  have HO0 : Hid (Blk ((w.alloc (Obj.cells (bA bs) 26)).alloc (Obj.cells (enA en0) 32)) (w.heap.size + 1) 32 (enA en0)) := Lib.hid (by
    have h := Blk.new (w.alloc (Obj.cells (bA bs) 26)) 32 (enA en0)
    rwa [show (w.alloc (Obj.cells (bA bs) 26)).heap.size = w.heap.size + 1 by simp] at h)
  have HB0 : Hid (Below w.heap.size w ((w.alloc (Obj.cells (bA bs) 26)).alloc (Obj.cells (enA en0) 32))) := Lib.hid (bthen (below_alloc _ _) (below_alloc _ _))
  clear hl hb hX
  go_enter Try.func16, Try.ntmps16
  go_wp2_with fail
  clear s1
  generalize ((w.alloc (Obj.cells (bA bs) 26)).alloc (Obj.cells (enA en0) 32)) = u0 at *
  have HM0 : Hid (RowB u0 (some ⟨w.heap.size, 0, none⟩) 6 44 (bs.take 6)) := Lib.hid (HR0.out.to 6 (by decide))
  have HM2 : Hid (RowB u0 (some ⟨w.heap.size, 8, none⟩) 2 36 ((bs.drop 8).take 2)) := Lib.hid (row_midN HR0.out 8 10 (by decide) (by decide))
  have HM3 : Hid (RowB u0 (some ⟨w.heap.size, 10, none⟩) 2 34 ((bs.drop 10).take 2)) := Lib.hid (row_midN HR0.out 10 12 (by decide) (by decide))
  obtain ⟨n0, HN0⟩ : ∃ n0, Hid (num (bs.take 6) = n0) := ⟨_, Lib.hid rfl⟩
  obtain ⟨n2, HN2⟩ : ∃ n2, Hid (num ((bs.drop 8).take 2) = n2) := ⟨_, Lib.hid rfl⟩
  obtain ⟨n3, HN3⟩ : ∃ n3, Hid (num ((bs.drop 10).take 2) = n3) := ⟨_, Lib.hid rfl⟩
  obtain ⟨c6, HC6⟩ : ∃ c6, Hid (bs.getD 6 0 = c6) := ⟨_, Lib.hid rfl⟩
  have hc6 : c6 < 256 := by rw [← HC6.out]; exact getD_lt Hb.out 6
  have hw6 : IntKind.i64.wrap (c6 : Int) = (c6 : Int) := wrap_u32n c6 (by omega)
  have Hcell6 : Hid (∀ w', Below u0.heap.size u0 w' → w'.cell? ⟨w.heap.size, 6, none⟩ = some (.int .u8 (c6 : Nat))) := Lib.hid (fun w' hw => by
    rw [← HC6.out]; exact ((HX0.out.below hw HX0.out.lt).cell 6).trans (bA_at bs 6 (by rw [HL.out]; decide)))
  obtain ⟨c7, HC7⟩ : ∃ c7, Hid (bs.getD 7 0 = c7) := ⟨_, Lib.hid rfl⟩
  have hc7 : c7 < 256 := by rw [← HC7.out]; exact getD_lt Hb.out 7
  have hw7 : IntKind.i64.wrap (c7 : Int) = (c7 : Int) := wrap_u32n c7 (by omega)
  have Hcell7 : Hid (∀ w', Below u0.heap.size u0 w' → w'.cell? ⟨w.heap.size, 7, none⟩ = some (.int .u8 (c7 : Nat))) := Lib.hid (fun w' hw => by
    rw [← HC7.out]; exact ((HX0.out.below hw HX0.out.lt).cell 7).trans (bA_at bs 7 (by rw [HL.out]; decide)))
  refine region_cut ?af (fun w' => Blk w' u0.heap.size 32 (enA ⟨k, (n0 : Nat), (c6 : Nat), (c7 : Nat), (n2 : Nat), (n3 : Nat), zeros 32⟩) ∧ Below u0.heap.size u0 w') ?h2 ?h1
  case h2 =>
    intro hcut
    refine wp_region_held (S := fun w' => Below u0.heap.size u0 w') (by kernel_rfl) ?_
    change wpAnyH _ _ _ _ _ _ _ _ (World.drew _)
    have hS : Below u0.heap.size u0 u0.drew := (Below.refl _ _).drew
    refine takeH hS (i := 0) (d := 10) (v := .int .i64 k) rfl rfl (by kernel_rfl) (by kernel_rfl) (by kernel_rfl) (fun _ _ _ h => h) (Or.inl ⟨by kernel_rfl, fun w' hw' => by kernel_rfl⟩) ?_
    go_frame
    refine takeH hS (i := 1) (d := 11) (v := .slice (some ⟨w.heap.size, 0, none⟩) 44 44) rfl rfl (by kernel_rfl) (by kernel_rfl) (by kernel_rfl) (fun _ _ _ h => h) (Or.inl ⟨by kernel_rfl, fun w' hw' => by kernel_rfl⟩) ?_
    go_frame
    refine takeH hS (i := 2) (d := 12) (v := .slice (some ⟨w.heap.size, 0, none⟩) 6 44) rfl rfl (by kernel_rfl) (by kernel_rfl) (by kernel_rfl) (fun _ _ _ h => h) (Or.inl ⟨by kernel_rfl, fun w' hw' => by kernel_rfl⟩) ?_
    go_frame
    refine takeH hS (i := 4) (d := 14) (v := .slice (some ⟨w.heap.size, 0, none⟩) 44 44) rfl rfl (by kernel_rfl) (by kernel_rfl) (by kernel_rfl) (fun _ _ _ h => h) (Or.inl ⟨by kernel_rfl, fun w' hw' => by kernel_rfl⟩) ?_
    go_frame
    refine takeH hS (i := 5) (d := 15) (v := .pointer (some ⟨w.heap.size, 6, none⟩)) rfl rfl (by kernel_rfl) (by kernel_rfl) (by kernel_rfl) (fun _ _ _ h => h) (Or.inl ⟨by kernel_rfl, fun w' hw' => by kernel_rfl⟩) ?_
    go_frame
    refine takeH hS (i := 6) (d := 16) (v := .int .u8 (c6 : Nat)) rfl rfl (by kernel_rfl) (by kernel_rfl) (by kernel_rfl) (fun _ _ _ h => h) (Or.inl ⟨by kernel_rfl, fun w' hw' => by (have hc := Hcell6.out w' hw'; go_simp)⟩) ?_
    go_frame
    refine takeH hS (i := 7) (d := 17) (v := .int .i64 (c6 : Nat)) rfl rfl (by kernel_rfl) (by kernel_rfl) (by kernel_rfl) (fun _ _ _ h => h) (Or.inl ⟨by kernel_rfl, fun w' hw' => by go_simp⟩) ?_
    go_frame
    refine takeH hS (i := 8) (d := 18) (v := .slice (some ⟨w.heap.size, 0, none⟩) 44 44) rfl rfl (by kernel_rfl) (by kernel_rfl) (by kernel_rfl) (fun _ _ _ h => h) (Or.inl ⟨by kernel_rfl, fun w' hw' => by kernel_rfl⟩) ?_
    go_frame
    refine takeH hS (i := 9) (d := 19) (v := .pointer (some ⟨w.heap.size, 7, none⟩)) rfl rfl (by kernel_rfl) (by kernel_rfl) (by kernel_rfl) (fun _ _ _ h => h) (Or.inl ⟨by kernel_rfl, fun w' hw' => by kernel_rfl⟩) ?_
    go_frame
    refine takeH hS (i := 10) (d := 20) (v := .int .u8 (c7 : Nat)) rfl rfl (by kernel_rfl) (by kernel_rfl) (by kernel_rfl) (fun _ _ _ h => h) (Or.inl ⟨by kernel_rfl, fun w' hw' => by (have hc := Hcell7.out w' hw'; go_simp)⟩) ?_
    go_frame
    refine takeH hS (i := 11) (d := 21) (v := .int .i64 (c7 : Nat)) rfl rfl (by kernel_rfl) (by kernel_rfl) (by kernel_rfl) (fun _ _ _ h => h) (Or.inl ⟨by kernel_rfl, fun w' hw' => by go_simp⟩) ?_
    go_frame
    refine takeH hS (i := 12) (d := 22) (v := .slice (some ⟨w.heap.size, 0, none⟩) 44 44) rfl rfl (by kernel_rfl) (by kernel_rfl) (by kernel_rfl) (fun _ _ _ h => h) (Or.inl ⟨by kernel_rfl, fun w' hw' => by kernel_rfl⟩) ?_
    go_frame
    refine takeH hS (i := 13) (d := 23) (v := .slice (some ⟨w.heap.size, 8, none⟩) 2 36) rfl rfl (by kernel_rfl) (by kernel_rfl) (by kernel_rfl) (fun _ _ _ h => h) (Or.inl ⟨by kernel_rfl, fun w' hw' => by kernel_rfl⟩) ?_
    go_frame
    refine takeH hS (i := 15) (d := 25) (v := .slice (some ⟨w.heap.size, 0, none⟩) 44 44) rfl rfl (by kernel_rfl) (by kernel_rfl) (by kernel_rfl) (fun _ _ _ h => h) (Or.inl ⟨by kernel_rfl, fun w' hw' => by kernel_rfl⟩) ?_
    go_frame
    refine takeH hS (i := 16) (d := 26) (v := .slice (some ⟨w.heap.size, 10, none⟩) 2 34) rfl rfl (by kernel_rfl) (by kernel_rfl) (by kernel_rfl) (fun _ _ _ h => h) (Or.inl ⟨by kernel_rfl, fun w' hw' => by kernel_rfl⟩) ?_
    go_frame
    refine nextH2 (i := 3) (k := 19) rfl rfl (by kernel_rfl) (by kernel_rfl) (by kernel_rfl) (fun K' hK => ?_) (fun K' hK => ?_)
    · go_wp2_with fail
      refine (rread_any _ _ _ _ _ (HM0.out.below hS) (by decide)).mono ?_
      rintro en wx ⟨rfl, rfl⟩
      rw [HN0.out]
      refine hK.out _ _ ⟨hS, ?_⟩
      clear hK K'
      refine nextH2 (i := 14) (k := 19) rfl rfl (by kernel_rfl) (by kernel_rfl) (by kernel_rfl) (fun K' hK => ?_) (fun K' hK => ?_)
      · go_wp2_with fail
        refine (rread_any _ _ _ _ _ (HM2.out.below hS) (by decide)).mono ?_
        rintro en wx ⟨rfl, rfl⟩
        rw [HN2.out]
        refine hK.out _ _ ⟨hS, ?_⟩
        clear hK K'
        refine nextH2 (i := 17) (k := 19) rfl rfl (by kernel_rfl) (by kernel_rfl) (by kernel_rfl) (fun K' hK => ?_) (fun K' hK => ?_)
        · go_wp2_with fail
          refine (rread_any _ _ _ _ _ (HM3.out.below hS) (by decide)).mono ?_
          rintro en wx ⟨rfl, rfl⟩
          rw [HN3.out]
          refine hK.out _ _ ⟨hS, ?_⟩
          clear hK K'
          refine takeH hS (i := 18) (d := 28) (v := .agg (enA ⟨k, (n0 : Nat), (c6 : Nat), (c7 : Nat), (n2 : Nat), (n3 : Nat), zeros 32⟩)) rfl rfl (by kernel_rfl) (by kernel_rfl) (by kernel_rfl) (fun _ _ _ h => h) (Or.inl ⟨by kernel_rfl, fun w' hw' => by kernel_rfl⟩) ?_
          refine nextH (i := 19) rfl (by kernel_rfl) (by kernel_rfl) (fun K' hK => ?_)
          go_wp2_with fail
          have hS2 : Below u0.heap.size u0 (u0.drew.alloc (Obj.cells (enA en0) 32)) := bthen hS (below_alloc _ _)
          have hN : Blk (u0.drew.alloc (Obj.cells (enA en0) 32)) u0.heap.size 32 (enA en0) := Blk.new u0.drew _ _
          refine hK.out _ _ ⟨hS2, ?_⟩
          clear hK K'
          refine nextH (i := 20) rfl (by kernel_rfl) (by kernel_rfl) (fun K' hK => ?_)
          refine wp_store_row 32 _ _ rfl u0.heap.size (enA ⟨k, (n0 : Nat), (c6 : Nat), (c7 : Nat), (n2 : Nat), (n3 : Nat), zeros 32⟩) rfl rfl 32 (enA en0) hN (info_e4A (zeros_length 32)) ((enA_size en0_len).trans (enA_size (zeros_length 32)).symm) enA_one ?_
          refine hK.out _ _ ⟨below_setRow hS2 (Nat.le_refl _) _, ?_⟩
          clear hK K'
          refine wpAnyH_done (by kernel_rfl) ?_ _
          go_frame
          exact hcut _ ⟨Blk.setRow (t := 32) (old := enA en0) hN, below_setRow hS2 (Nat.le_refl _) _⟩
        · go_wp2_with fail
          have hS2 : Below u0.heap.size u0 (u0.drew.alloc (Obj.cells (enA en0) 32)) := bthen hS (below_alloc _ _)
          have hN : Blk (u0.drew.alloc (Obj.cells (enA en0) 32)) u0.heap.size 32 (enA en0) := Blk.new u0.drew _ _
          refine hK.out _ _ ⟨hS2, ?_⟩
          clear hK K'
          refine nextH (i := 17) rfl (by kernel_rfl) (by kernel_rfl) (fun K' hK => ?_)
          go_wp2_with fail
          refine (rread_any _ _ _ _ _ (HM3.out.below hS2) (by decide)).mono ?_
          rintro en wx ⟨rfl, rfl⟩
          rw [HN3.out]
          refine hK.out _ _ ⟨hS2, ?_⟩
          clear hK K'
          refine takeH hS2 (i := 18) (d := 28) (v := .agg (enA ⟨k, (n0 : Nat), (c6 : Nat), (c7 : Nat), (n2 : Nat), (n3 : Nat), zeros 32⟩)) rfl rfl (by kernel_rfl) (by kernel_rfl) (by kernel_rfl) (fun _ _ _ h => h) (Or.inl ⟨by kernel_rfl, fun w' hw' => by kernel_rfl⟩) ?_
          refine nextH (i := 20) rfl (by kernel_rfl) (by kernel_rfl) (fun K' hK => ?_)
          refine wp_store_row 32 _ _ rfl u0.heap.size (enA ⟨k, (n0 : Nat), (c6 : Nat), (c7 : Nat), (n2 : Nat), (n3 : Nat), zeros 32⟩) rfl rfl 32 (enA en0) hN (info_e4A (zeros_length 32)) ((enA_size en0_len).trans (enA_size (zeros_length 32)).symm) enA_one ?_
          refine hK.out _ _ ⟨below_setRow hS2 (Nat.le_refl _) _, ?_⟩
          clear hK K'
          refine wpAnyH_done (by kernel_rfl) ?_ _
          go_frame
          exact hcut _ ⟨Blk.setRow (t := 32) (old := enA en0) hN, below_setRow hS2 (Nat.le_refl _) _⟩
      · go_wp2_with fail
        have hS2 : Below u0.heap.size u0 (u0.drew.alloc (Obj.cells (enA en0) 32)) := bthen hS (below_alloc _ _)
        have hN : Blk (u0.drew.alloc (Obj.cells (enA en0) 32)) u0.heap.size 32 (enA en0) := Blk.new u0.drew _ _
        refine hK.out _ _ ⟨hS2, ?_⟩
        clear hK K'
        refine nextH (i := 14) rfl (by kernel_rfl) (by kernel_rfl) (fun K' hK => ?_)
        go_wp2_with fail
        refine (rread_any _ _ _ _ _ (HM2.out.below hS2) (by decide)).mono ?_
        rintro en wx ⟨rfl, rfl⟩
        rw [HN2.out]
        refine hK.out _ _ ⟨hS2, ?_⟩
        clear hK K'
        refine nextH (i := 17) rfl (by kernel_rfl) (by kernel_rfl) (fun K' hK => ?_)
        go_wp2_with fail
        refine (rread_any _ _ _ _ _ (HM3.out.below hS2) (by decide)).mono ?_
        rintro en wx ⟨rfl, rfl⟩
        rw [HN3.out]
        refine hK.out _ _ ⟨hS2, ?_⟩
        clear hK K'
        refine takeH hS2 (i := 18) (d := 28) (v := .agg (enA ⟨k, (n0 : Nat), (c6 : Nat), (c7 : Nat), (n2 : Nat), (n3 : Nat), zeros 32⟩)) rfl rfl (by kernel_rfl) (by kernel_rfl) (by kernel_rfl) (fun _ _ _ h => h) (Or.inl ⟨by kernel_rfl, fun w' hw' => by kernel_rfl⟩) ?_
        refine nextH (i := 20) rfl (by kernel_rfl) (by kernel_rfl) (fun K' hK => ?_)
        refine wp_store_row 32 _ _ rfl u0.heap.size (enA ⟨k, (n0 : Nat), (c6 : Nat), (c7 : Nat), (n2 : Nat), (n3 : Nat), zeros 32⟩) rfl rfl 32 (enA en0) hN (info_e4A (zeros_length 32)) ((enA_size en0_len).trans (enA_size (zeros_length 32)).symm) enA_one ?_
        refine hK.out _ _ ⟨below_setRow hS2 (Nat.le_refl _) _, ?_⟩
        clear hK K'
        refine wpAnyH_done (by kernel_rfl) ?_ _
        go_frame
        exact hcut _ ⟨Blk.setRow (t := 32) (old := enA en0) hN, below_setRow hS2 (Nat.le_refl _) _⟩
    · go_wp2_with fail
      have hS2 : Below u0.heap.size u0 (u0.drew.alloc (Obj.cells (enA en0) 32)) := bthen hS (below_alloc _ _)
      have hN : Blk (u0.drew.alloc (Obj.cells (enA en0) 32)) u0.heap.size 32 (enA en0) := Blk.new u0.drew _ _
      refine hK.out _ _ ⟨hS2, ?_⟩
      clear hK K'
      refine nextH (i := 3) rfl (by kernel_rfl) (by kernel_rfl) (fun K' hK => ?_)
      go_wp2_with fail
      refine (rread_any _ _ _ _ _ (HM0.out.below hS2) (by decide)).mono ?_
      rintro en wx ⟨rfl, rfl⟩
      rw [HN0.out]
      refine hK.out _ _ ⟨hS2, ?_⟩
      clear hK K'
      refine nextH (i := 14) rfl (by kernel_rfl) (by kernel_rfl) (fun K' hK => ?_)
      go_wp2_with fail
      refine (rread_any _ _ _ _ _ (HM2.out.below hS2) (by decide)).mono ?_
      rintro en wx ⟨rfl, rfl⟩
      rw [HN2.out]
      refine hK.out _ _ ⟨hS2, ?_⟩
      clear hK K'
      refine nextH (i := 17) rfl (by kernel_rfl) (by kernel_rfl) (fun K' hK => ?_)
      go_wp2_with fail
      refine (rread_any _ _ _ _ _ (HM3.out.below hS2) (by decide)).mono ?_
      rintro en wx ⟨rfl, rfl⟩
      rw [HN3.out]
      refine hK.out _ _ ⟨hS2, ?_⟩
      clear hK K'
      refine takeH hS2 (i := 18) (d := 28) (v := .agg (enA ⟨k, (n0 : Nat), (c6 : Nat), (c7 : Nat), (n2 : Nat), (n3 : Nat), zeros 32⟩)) rfl rfl (by kernel_rfl) (by kernel_rfl) (by kernel_rfl) (fun _ _ _ h => h) (Or.inl ⟨by kernel_rfl, fun w' hw' => by kernel_rfl⟩) ?_
      refine nextH (i := 20) rfl (by kernel_rfl) (by kernel_rfl) (fun K' hK => ?_)
      refine wp_store_row 32 _ _ rfl u0.heap.size (enA ⟨k, (n0 : Nat), (c6 : Nat), (c7 : Nat), (n2 : Nat), (n3 : Nat), zeros 32⟩) rfl rfl 32 (enA en0) hN (info_e4A (zeros_length 32)) ((enA_size en0_len).trans (enA_size (zeros_length 32)).symm) enA_one ?_
      refine hK.out _ _ ⟨below_setRow hS2 (Nat.le_refl _) _, ?_⟩
      clear hK K'
      refine wpAnyH_done (by kernel_rfl) ?_ _
      go_frame
      exact hcut _ ⟨Blk.setRow (t := 32) (old := enA en0) hN, below_setRow hS2 (Nat.le_refl _) _⟩
  case h1 =>
    rintro u1 ⟨hF1, hB1⟩
    have HF1 := Lib.hid hF1
    have HX1 := Lib.hid (HX0.out.below hB1 HX0.out.lt)
    have HO1 := Lib.hid (HO0.out.below hB1 HO0.out.lt)
    have HBw := Lib.hid (bthen HB0.out hB1)
    have HLt : Hid (w.heap.size + 1 < u0.heap.size) := Lib.hid HO0.out.lt
    obtain ⟨B, HBd⟩ : ∃ B, Hid ((bs.drop 12).take 32 = B) := ⟨_, Lib.hid rfl⟩
    have HBl : Hid (B.length = 32) := Lib.hid (by rw [← HBd.out, List.length_take, List.length_drop, HL.out]; decide)
    have HBat : Hid (∀ j, j < 32 → bs.getD (12 + j) 0 = B.getD j 0) := Lib.hid (fun j hj => by
      rw [← HBd.out]; simp [List.getD, List.getElem?_take_of_lt hj, List.getElem?_drop])
    have Hdoc : Hid ((⟨k, (n0 : Nat), (c6 : Nat), (c7 : Nat), (n2 : Nat), (n3 : Nat), B⟩ : EnR) = doc k bs) := Lib.hid (by
      unfold doc; rw [num_single bs 6 (by rw [HL.out]; decide), num_single bs 7 (by rw [HL.out]; decide), HN0.out, HN2.out, HN3.out, HC6.out, HC7.out, HBd.out])
    clear hF1 hB1 hw6 hw7 HM0 HM2 HM3 Hcell6 Hcell7 HX0 HR0 HO0 HB0 hz
    go_wp2_with fail
    go_loopw [8] (fun i wr => ∃ j : Nat, j ≤ 32 ∧ i = .int .i64 j ∧ Blk wr u0.heap.size 32 (enA ⟨k, (n0 : Nat), (c6 : Nat), (c7 : Nat), (n2 : Nat), (n3 : Nat), B.take j ++ zeros (32 - j)⟩) ∧ Kept (· = u0.heap.size) u1 wr) (fun i _ => 32 - (intOf i).toNat)
    case atStart => exact ⟨0, Nat.zero_le _, rfl, by rw [List.take_zero, List.nil_append]; exact HF1.out, Kept.refl _ _⟩
    case round =>
      obtain ⟨j, hj, rfl, hg, hkp⟩ := hrel
      have Hg := Lib.hid hg
      have Hk := Lib.hid hkp
      clear hg hkp
      have HX2 := Lib.hid (HX1.out.kept Hk.out (by have := HLt.out; omega))
      by_cases hlt : j < 32
      · have cs := (HX2.out.cell (12 + j)).trans (bA_at bs (12 + j) (by rw [HL.out]; omega))
        rw [HBat.out j hlt] at cs
        have hbl : (B.take j ++ zeros (32 - j)).length = 32 := by rw [List.length_append, List.length_take, HBl.out, zeros_length]; omega
        have fx := Hg.out.frozen (6 + j)
        have cx := (Hg.out.cell (6 + j)).trans (mixA_byte _ _ j (by rw [hbl]; exact hlt))
        have hgs := Hg.out.set (6 + j) (.int .u8 (B.getD j 0 : Nat))
        rw [enA_setY _ j _ (by rw [hbl]; exact hlt), fill_row 32 B j hlt HBl.out] at hgs
        have Hgs := Lib.hid hgs
        generalize B.getD j 0 = c at *
        generalize EnR.y _ = bb at cx
        generalize bb.getD j 0 = y at *
        clear hgs hbl
        go_wp2_with fail
        go_roundw
        case rel => exact ⟨j + 1, by omega, by go_num, Hgs.out, Hk.out.setCell rfl _⟩
        case measure => simp [intOf]; omega
      · obtain rfl : j = 32 := by omega
        have hf : (⟨k, (n0 : Nat), (c6 : Nat), (c7 : Nat), (n2 : Nat), (n3 : Nat), B.take 32 ++ zeros (32 - 32)⟩ : EnR) = doc k bs := by
          rw [← Hdoc.out, List.take_of_length_le (by rw [HBl.out]; decide)]
          simp [zeros]
        have hg2 := Hg.out
        rw [hf] at hg2
        have HF2 := Lib.hid hg2
        have HLr : Hid ((doc k bs).y.length = 32) := Lib.hid (doc_len HL.out)
        have HO2 := Lib.hid (HO1.out.kept Hk.out (by have := HLt.out; omega))
        have HB2 := Lib.hid (bkept HBw.out (Nat.le_refl _) Hk.out (fun i hi h => by have := HLt.out; omega))
        obtain ⟨e, He⟩ : ∃ e, Hid (doc k bs = e) := ⟨_, Lib.hid rfl⟩
        have HvT : Hid (rB e = true → rofV k bs = e ∧ rofB k bs = true) := Lib.hid (fun h => by rw [← He.out] at h; exact ⟨(rofV_ok h).trans He.out, h⟩)
        have HvF : Hid (rB e = false → rofV k bs = en0 ∧ rofB k bs = false) := Lib.hid (fun h => by rw [← He.out] at h; exact ⟨rofV_bad h, h⟩)
        rw [He.out] at HF2 HLr
        clear hg2 hf Hg Hk HX2 HX1 HO1 HBw
        go_wp2_with (first | (refine wpl_load rfl _ rfl (u0.heap.size) rfl _ _ _ HF2.out Try.underlying32 rfl (info_e4A HLr.out) ?_; go_frame))
        refine (rright4_any e _ HLr.out).mono ?_
        rintro en w5 ⟨rfl, hb5⟩
        have HB5 := Lib.hid (bthen HB2.out hb5)
        have HO5 := Lib.hid (HO2.out.below hb5 HO2.out.lt)
        have HF5 := Lib.hid (HF2.out.below hb5 HF2.out.lt)
        clear hb5 HB2 HO2 HF2
        cases hr : rB e with
        | true =>
          have HV := Lib.hid (HvT.out hr)
          clear hr
          go_wp2_with (first | (refine wpl_load rfl _ rfl (u0.heap.size) rfl _ _ _ HF5.out Try.underlying32 rfl (info_e4A HLr.out) ?_; go_frame) | (refine wpl_store rfl _ _ rfl (w.heap.size + 1) (enA e) rfl rfl _ _ HO5.out (info_e4A HLr.out) ((enA_size en0_len).trans (enA_size HLr.out).symm) enA_one ?_; intro w9 hS9 hK9; have HS9 := Lib.hid hS9; have HK9 := Lib.hid hK9; clear hS9 hK9; go_frame))
          exact bodyPost_ret (v := .tuple #[.agg (enA e), .bool true]) (results_cell_slot Try.results16 _ _ (w.heap.size + 1) _ _ _ _ rfl rfl HS9.out Try.underlying32 rfl (info_e4A HLr.out)) rfl ⟨by rw [HV.out.1, HV.out.2], bkept HB5.out (Nat.le_refl _) HK9.out (fun i hi h => by omega)⟩
        | false =>
          have HV := Lib.hid (HvF.out hr)
          clear hr
          go_wp2_with (first | (refine wpl_build (by kernel_rfl) 32 _ rfl (.agg (enA en0)) (fun _ => by kernel_rfl) ?_; go_frame) | (refine wpl_store rfl _ _ rfl (w.heap.size + 1) (enA en0) rfl rfl _ _ HO5.out (info_e4A en0_len) rfl enA_one ?_; intro w9 hS9 hK9; have HS9 := Lib.hid hS9; have HK9 := Lib.hid hK9; clear hS9 hK9; go_frame))
          exact bodyPost_ret (v := .tuple #[.agg (enA en0), .bool false]) (results_cell_slot Try.results16 _ _ (w.heap.size + 1) _ _ _ _ rfl rfl HS9.out Try.underlying32 rfl (info_e4A en0_len)) rfl ⟨by rw [HV.out.1, HV.out.2], bkept HB5.out (Nat.le_refl _) HK9.out (fun i hi h => by omega)⟩

end Go.Proofs.Ytdjnfikacjfkkaa
