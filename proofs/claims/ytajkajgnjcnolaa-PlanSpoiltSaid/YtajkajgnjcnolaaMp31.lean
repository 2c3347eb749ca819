import Derived.Test.YtajkajgnjcnolaaMp30
namespace Go.Proofs.Ytajkajgnjcnolaa
open Go.RowKit Go.Maps
set_option linter.unusedVariables false
set_option linter.unnecessarySimpa false
set_option linter.unusedSimpArgs false
theorem PdTo.stepF {lo X : Nat} {w w1 w3 : World} {S3 : St8} {F F1 : Nat → Prop} (hk : Kept F w w1) (hi1 : ∀ i, F1 i → F i ∨ w.heap.size ≤ i) (h3 : PdTo lo w1 X F1 S3 w3) : PdTo lo w X F S3 w3 := by
  obtain ⟨F3, p3, k3, i3⟩ := h3
  refine ⟨F3, p3, hk.andThen k3 (fun _ _ h => h) (fun i hi hF9 => ?_), fun i hi => ?_⟩
  · rcases hi1 i hF9 with h9 | h9
    · exact h9
    · omega
  · rcases i3 i hi with h9 | h9
    · exact hi1 i h9
    · exact .inr (Nat.le_trans hk.size h9)
theorem pdAt.ltF {lo X : Nat} {w : World} {S : St8} {F : Nat → Prop} (h : pdAt lo w X S F) {i : Nat} (hi : F i) : i < w.heap.size := by
  obtain ⟨D, vz, ve, l, mb, n, f, h, rfl⟩ := h
  exact h.lt hi
theorem wf_small {z : Int} (h0 : 0 ≤ z) (h1 : z ≤ 1000000) : (Lit.int .i64 z).wf = true := by
  simp only [Lit.wf, IntKind.min, IntKind.max, IntKind.signed, IntKind.bits, Bool.and_eq_true, decide_eq_true_eq, if_true]
  omega
theorem ap_keys {d : DvR} {zs : List ZsR} (sn : Sane d zs) {z : Int} {t : List Nat} (h : (apSp d zs z t).e = 0) : (Lit.int .i64 z).wf = true ∧ (Lit.int .i64 (apSp d zs z t).o).wf = true := by
  by_cases h1 : cmdE d zs.length z = 0
  · obtain ⟨k, rfl, hk, hd⟩ := cmd_in h1
    obtain ⟨y, hy⟩ : ∃ y, zs[k]? = some y := ⟨_, List.getElem?_eq_getElem hk⟩
    have hl := sn.len
    refine ⟨wf_small (by omega) (by omega), ?_⟩
    obtain ⟨hok, _⟩ := sane_at sn hy
    have h2 := hok.len
    have h3 := hok.size
    unfold apSp
    rw [if_neg (fun h => h h1), zsat_of hy]
    by_cases h4 : stS y = 0 ∧ ¬ (opD zs : Int) < d.opn
    · rw [if_pos h4]; exact wf_small (by simp) (by simp)
    · rw [if_neg h4]
      show (Lit.int .i64 (apOS y)).wf = true
      unfold apOS
      split
      · exact wf_small (by omega) (by omega)
      · exact wf_small (by simp) (by simp)
  · exfalso
    unfold apSp at h
    rw [if_pos h1] at h
    exact h1 h
theorem pdAt.keptB {lo X : Nat} {w w' : World} {S : St8} {F T : Nat → Prop} (h : pdAt lo w X S F) (k : Kept T w w') (hn : ∀ i, F i → ¬ T i) : pdAt lo w' X S F := by
  obtain ⟨D, vz, ve, l, mb, n, f, h, rfl⟩ := h
  exact ⟨D, vz, ve, l, mb, n, f, h.kept k hn, rfl⟩
section
variable {lo X : Nat} {w : World} {S : St8} {F : Nat → Prop}
theorem Fine.hn (h : Fine S) : S.R.h.length + S.R.cs.length ≤ 40000 := by have := h.cs; have := h.h; omega
theorem pdAt.fine (h : pdAt lo w X S F) (hf : Fine S) (z : Int) (fl : Bool) : (0 ≤ (S.due z fl).R.d.count ∧ (S.due z fl).R.d.count ≤ 1000000) := by
  obtain ⟨D, vz, ve, l, mb, n, f, h, rfl⟩ := h
  obtain ⟨_, h2, _⟩ := due_facts (S := S) z fl h.eok h.sane
  have := hf.n0; have := hf.n1
  rw [h2]; omega
end
set_option maxRecDepth 100000 in
set_option maxHeartbeats 2000000 in
theorem prs {lo X : Nat} {w : World} {S : St8} {F : Nat → Prop} (z : Int) (h : pdAt lo w X S F) (hf : Fine S) : Calls Try.prog 32 #[.pointer (some ⟨X, 0, none⟩), .int .i64 z] w fun en w' => en = .returned ((.int .i64 (S.rsO z).e)) ∧ PdTo lo w X F (S.rs z) w' := by
  have Hn := Lib.hid (h.fine hf z false)
  have H0 := Lib.hid h
  have Hf := Lib.hid hf.hn
  clear h hf
  go_enter Try.func32, Try.ntmps32
  go_wp2_with fail
  refine (pahead z H0.out Hf.out).mono ?_
  rintro en w1 ⟨rfl, F1, ⟨D, vz, ve, l, mb, n, f, hp, rfl⟩, hk1, hi1⟩
  have HP := Lib.hid hp
  have Hk1 := Lib.hid hk1
  have Hi1 := Lib.hid hi1
  have c0 := hp.c0
  clear hp hk1 hi1 H0
  go_wp2_with fail
  refine (crs8 HP.out.zs z HP.out.dv Hn.out).mono ?_
  rintro en w2 ⟨rfl, hT⟩
  have HT := Lib.hid (PdTo.stepF Hk1.out Hi1.out (HP.out.devTo hT))
  clear hT c0 HP Hk1 Hi1
  go_wp2_with fail
  go_ret
  exact ⟨rfl, HT.out⟩
set_option maxRecDepth 100000 in
set_option maxHeartbeats 2000000 in
theorem pfn {lo X : Nat} {w : World} {S : St8} {F : Nat → Prop} (z : Int) (h : pdAt lo w X S F) (hf : Fine S) : Calls Try.prog 34 #[.pointer (some ⟨X, 0, none⟩), .int .i64 z] w fun en w' => en = .returned ((.int .i64 (S.fnO z).e)) ∧ PdTo lo w X F (S.fn z) w' := by
  have Hn := Lib.hid (h.fine hf z false)
  have H0 := Lib.hid h
  have Hf := Lib.hid hf.hn
  clear h hf
  go_enter Try.func34, Try.ntmps34
  go_wp2_with fail
  refine (pahead z H0.out Hf.out).mono ?_
  rintro en w1 ⟨rfl, F1, ⟨D, vz, ve, l, mb, n, f, hp, rfl⟩, hk1, hi1⟩
  have HP := Lib.hid hp
  have Hk1 := Lib.hid hk1
  have Hi1 := Lib.hid hi1
  have c0 := hp.c0
  clear hp hk1 hi1 H0
  go_wp2_with fail
  refine (cfn8 HP.out.zs z HP.out.dv Hn.out).mono ?_
  rintro en w2 ⟨rfl, hT⟩
  have HT := Lib.hid (PdTo.stepF Hk1.out Hi1.out (HP.out.devTo hT))
  clear hT c0 HP Hk1 Hi1
  go_wp2_with fail
  go_ret
  exact ⟨rfl, HT.out⟩
theorem ppassD {lo X : Nat} {w : World} {S : St8} {F : Nat → Prop} (h : pdAt lo w X S F) (hn : S.R.h.length + S.R.cs.length ≤ 40000) :
    Calls Try.prog 64 #[.pointer (some ⟨X, 0, none⟩)] w fun en w' => en = .returned (.tuple #[]) ∧ PdTo lo w X F (S.due 0 true) w' := by
  have e : S.due 0 true = ⟨dueF S.R.d S.R.zs S.R.cs S.R.h, dueM S.R.d S.R.zs S.R.cs S.M⟩ := by
    unfold St8.due dueD
    rw [if_pos (.inl rfl), if_pos (.inl rfl)]
  rw [e]
  exact ppass h hn
set_option maxRecDepth 100000 in
set_option maxHeartbeats 2000000 in
theorem pfl {lo X : Nat} {w : World} {S : St8} {F : Nat → Prop} (h : pdAt lo w X S F) (hf : Fine S) : Calls Try.prog 36 #[.pointer (some ⟨X, 0, none⟩)] w fun en w' => en = .returned ((.int .i64 S.flO.e)) ∧ PdTo lo w X F (S.fl) w' := by
  have Hn := Lib.hid (h.fine hf 0 true)
  have H0 := Lib.hid h
  have Hf := Lib.hid hf.hn
  clear h hf
  go_enter Try.func36, Try.ntmps36
  go_wp2_with fail
  refine (ppassD H0.out Hf.out).mono ?_
  rintro en w1 ⟨rfl, F1, ⟨D, vz, ve, l, mb, n, f, hp, rfl⟩, hk1, hi1⟩
  have HP := Lib.hid hp
  have Hk1 := Lib.hid hk1
  have Hi1 := Lib.hid hi1
  have c0 := hp.c0
  clear hp hk1 hi1 H0
  go_wp2_with fail
  refine (cfl8 HP.out.zs HP.out.dv Hn.out HP.out.len).mono ?_
  rintro en w2 ⟨rfl, hT⟩
  have HT := Lib.hid (PdTo.stepF Hk1.out Hi1.out (HP.out.devTo hT))
  clear hT c0 HP Hk1 Hi1
  go_wp2_with fail
  go_ret
  exact ⟨rfl, HT.out⟩
set_option maxRecDepth 100000 in
set_option maxHeartbeats 2000000 in
theorem prv {lo X : Nat} {w : World} {S : St8} {F : Nat → Prop} {ka : Option Addr} {kl kc : Nat} {ks : List Int} (h : pdAt lo w X S F) (hk : ∃ w0, RowZ w0 ka kl kc ks ∧ Below w0.heap.size w0 w ∧ w0.heap.size ≤ lo) (hf : Fine S) : Calls Try.prog 37 #[.pointer (some ⟨X, 0, none⟩), .slice ka kl kc] w fun en w' => en = .returned (.tuple #[]) ∧ PdTo lo w X F (S.rv ks) w' := by
  obtain ⟨D, vz, ve, l, mb, n, f, hp, rfl⟩ := h
  have HP := Lib.hid hp
  have Hk := Lib.hid hk
  have c0 := hp.c0
  clear hp hk hf
  go_enter Try.func37, Try.ntmps37
  go_wp2_with fail
  refine (crv8 HP.out.zs HP.out.dv Hk.out HP.out.len).mono ?_
  rintro en w2 ⟨rfl, hT⟩
  have HT := Lib.hid (HP.out.devTo hT)
  clear hT c0 HP
  go_wp2_with fail
  first | go_end0 | refine bodyPost_ret (results_none rfl _ _ _) rfl ?_
  exact ⟨rfl, HT.out⟩
set_option maxRecDepth 100000 in
set_option maxHeartbeats 2000000 in
theorem pdev {lo X : Nat} {w : World} {S : St8} {F : Nat → Prop} (h : pdAt lo w X S F) : Calls Try.prog 12 #[.pointer (some ⟨X, 0, none⟩)] w fun e w' => ∃ D vz l, e = .returned (.pointer (some ⟨D, 0, none⟩)) ∧ w = w' ∧ DvAt lo w D vz S.R.d l ∧ l.map ZcR.z = S.R.zs := by
  obtain ⟨D, vz, ve, l, mb, n, f, hp, rfl⟩ := h
  have HP := Lib.hid hp
  have c0 := hp.c0
  clear hp
  go_enter Try.func12, Try.ntmps12
  go_wp2_with fail
  go_ret
  exact ⟨D, vz, l, rfl, rfl, HP.out.dv, HP.out.zs⟩
set_option maxRecDepth 100000 in
set_option maxHeartbeats 2000000 in
theorem prd {lo X : Nat} {w : World} {S : St8} {F : Nat → Prop} (z off : Int) (h : pdAt lo w X S F) (hf : Fine S) : Calls Try.prog 29 #[.pointer (some ⟨X, 0, none⟩), .int .i64 z, .int .i64 off] w fun en w' => en = .returned (.tuple #[.agg (bA (S.rdV z off)), .int .i64 (S.rdO z off).e]) ∧ PdTo lo w X F (S.rd z off) w' := by
  have Hn := Lib.hid (h.fine hf z false)
  have H0 := Lib.hid (pdAt.below h (below_alloc w (Obj.cells (bA (zeros 64)) 34)))
  have Hb0 := Lib.hid (below_alloc w (Obj.cells (bA (zeros 64)) 34))
  have HX := Lib.hid (Blk.new w 34 (bA (zeros 64)))
  have HnX : Hid (¬ F w.heap.size) := Lib.hid (fun hi => Nat.lt_irrefl _ (h.ltF hi))
  have Hlt0 : Hid (w.heap.size < (w.alloc (Obj.cells (bA (zeros 64)) 34)).heap.size) := Lib.hid HX.out.lt
  have H64 : Hid ((S.rdV z off).length = 64) := Lib.hid (by
    obtain ⟨D, vz, ve, l, mb, n, f, hp, rfl⟩ := h
    obtain ⟨h1, h2, _⟩ := due_facts (S := S) z false hp.eok hp.sane
    exact rdV7_64 h1 z off)
  have Hf := Lib.hid hf.hn
  have hz64 := zero_secF
  clear h hf
  go_enter Try.func29, Try.ntmps29
  go_upto_region 1 with fail
  generalize w.alloc (Obj.cells (bA (zeros 64)) 34) = w0 at *
  go_wp2_with fail
  refine (pahead z H0.out Hf.out).mono ?_
  rintro en w1 ⟨rfl, F1, ⟨D, vz, ve, l, mb, n, f, hp, rfl⟩, hk1, hi1⟩
  have HP := Lib.hid hp
  have Hk1 := Lib.hid hk1
  have Hi1 := Lib.hid hi1
  have HX1 := Lib.hid (HX.out.kept hk1 HnX.out)
  have HnX1 : Hid (¬ (PdF X D vz ve l mb) w.heap.size) := Lib.hid (fun hi => by
    rcases hi1 _ hi with h9 | h9
    · exact HnX.out h9
    · have := HX.out.lt; omega)
  have c0 := hp.c0
  clear hp hk1 hi1 H0 HX
  go_wp2_with fail
  refine (crd8 HP.out.zs z off HP.out.dv Hn.out).mono ?_
  rintro en w2 ⟨rfl, hT⟩
  have HT := Lib.hid (PdTo.stepF Hk1.out Hi1.out (HP.out.devTo hT))
  have HX2 := Lib.hid (HX1.out.kept hT.keptF (fun h9 => HnX1.out (.inr (.inl h9))))
  have HE : Hid (rdV7 (S.due z false).R.d (S.due z false).R.zs z off = S.rdV z off) := Lib.hid rfl
  clear hT c0 HP Hk1 Hi1 HX1 HnX1
  rw [HE.out]
  go_wp2_with (first | (refine wpl_store rfl _ _ rfl (w.heap.size) (bA (S.rdV z off)) rfl rfl _ _ HX2.out (info_sec H64.out) (by rw [bA_size, bA_size, zeros_length, H64.out]) (bA_one _) ?_; intro w9 hSg hKg; have HSg := Lib.hid hSg; have HKg := Lib.hid hKg; clear hSg hKg; go_frame))
  have HF : Hid (PdTo lo w X F (S.rd z off) w9) := Lib.hid (by
    obtain ⟨F2, p2, k2, i2⟩ := HT.out
    have hn2 : ¬ F2 w.heap.size := fun h9 => by
      rcases i2 _ h9 with h9 | h9
      · exact HnX.out h9
      · have := HX2.out.lt
        have h8 := Hb0.out.size
        exact absurd h9 (by have := Hlt0.out; omega)
    refine ⟨F2, pdAt.keptB p2 HKg.out (fun i hi e => hn2 (e ▸ hi)), (((Kept.of_below (S := fun _ => False) Hb0.out).andThen (U := fun i => F i ∨ i = w.heap.size) k2 (fun _ _ h => h.elim) (fun _ _ h => .inl h)).andThen (U := fun i => F i ∨ i = w.heap.size) HKg.out (fun _ _ h => h) (fun _ _ h => .inr h)).mono (fun i hi h => h.elim id (fun e => absurd hi (by omega))), fun i hi => ?_⟩
    rcases i2 i hi with h9 | h9
    · exact .inl h9
    · exact .inr (Nat.le_trans Hb0.out.size h9))
  exact bodyPost_ret (v := .tuple #[.agg (bA (S.rdV z off)), .int .i64 ((S.rdO z off).e)]) (results_cell_slot Try.results29 _ _ (w.heap.size) 34 _ _ _ rfl rfl HSg.out Try.underlying34 rfl (info_sec H64.out)) rfl ⟨rfl, HF.out⟩
set_option maxRecDepth 100000 in
set_option maxHeartbeats 2000000 in
theorem pap_no {lo X : Nat} {w : World} {S : St8} {F : Nat → Prop} {S1 : St8} (z : Int) (t : List Nat) (h64 : t.length = 64) (hlt : ∀ b ∈ t, b < 256) (h : pdAt lo w X S F) (hf : Fine S) (hS1 : S.due z false = S1) (he : (apSp S1.R.d S1.R.zs z t).e ≠ 0) : Calls Try.prog 25 #[.pointer (some ⟨X, 0, none⟩), .int .i64 z, .agg (bA t)] w fun en w' => en = .returned (.tuple #[.int .i64 (apSp S1.R.d S1.R.zs z t).o, .int .i64 (apSp S1.R.d S1.R.zs z t).e]) ∧ PdTo lo w X F (S.ap z t) w' := by
  have Hn : Hid (0 ≤ S1.R.d.count ∧ S1.R.d.count ≤ 1000000) := Lib.hid (hS1 ▸ h.fine hf z false)
  have hb0 := below_alloc w (Obj.cells (bA t) 34)
  have H0 := Lib.hid (pdAt.below h hb0)
  have Hb0 := Lib.hid hb0
  have HS0 := Lib.hid (Blk.new w 34 (bA t))
  have Hlw := Lib.hid HS0.out.lt
  have HnF : Hid (¬ F w.heap.size) := Lib.hid (fun hi => Nat.lt_irrefl _ (h.ltF hi))
  have Hf := Lib.hid hf.hn
  have H64 := Lib.hid h64
  have Hlt := Lib.hid hlt
  have HE := Lib.hid he
  have HSE := Lib.hid hS1
  clear h hf hb0 h64 hlt he hS1
  go_enter Try.func25, Try.ntmps25
  go_upto_region 1 with fail
  generalize w.alloc (Obj.cells (bA t) 34) = w0 at *
  go_wp2_with fail
  refine (pahead z H0.out Hf.out).mono ?_
  rw [HSE.out]
  rintro en w1 ⟨rfl, F1, ⟨D, vz, ve, l, mb, n, f, hp, rfl⟩, hk1, hi1⟩
  have HP1 := Lib.hid hp
  have Hk1 := Lib.hid hk1
  have Hi1 := Lib.hid hi1
  have HS1 := Lib.hid (HS0.out.kept hk1 HnF.out)
  have HX := Lib.hid hp.blk
  have HnX := Lib.hid hp.dvX
  have HnS : Hid (¬ DvF D vz l w.heap.size) := Lib.hid (fun hi => by
    rcases hi1 _ (.inr (.inl hi)) with h9 | h9
    · exact HnF.out h9
    · have := Hlw.out; omega)
  clear hp hk1 hi1 H0 HS0
  go_upto_region 2 with fail
  refine wp_region_held (S := fun w' => Kept (DvF D vz l) w1 w') (by kernel_rfl) ?_
  change wpAnyH _ _ _ _ _ _ _ _ (World.drew _)
  have hS : Kept (DvF D vz l) w1 w1.drew := (Kept.refl _ _).drew
  have hB0 : Below w1.heap.size w1 w1.drew := (Below.refl _ _).drew
  refine takeH hS (i := 0) (d := 14) (v := .pointer (some ⟨X, 0, none⟩)) rfl rfl (by kernel_rfl) (by kernel_rfl) (by kernel_rfl) (fun _ _ _ h => h) (Or.inl ⟨by kernel_rfl, fun w' hw' => by kernel_rfl⟩) ?_
  refine takeH hS (i := 1) (d := 15) (v := .pointer (some ⟨X, 0, none⟩)) rfl rfl (by kernel_rfl) (by kernel_rfl) (by kernel_rfl) (fun _ _ _ h => h) (Or.inl ⟨by kernel_rfl, fun w' hw' => by kernel_rfl⟩) ?_
  refine takeH hS (i := 2) (d := 16) (v := .pointer (some ⟨X, 0, none⟩)) rfl rfl (by kernel_rfl) (by kernel_rfl) (by kernel_rfl) (fun _ _ _ h => h) (Or.inl ⟨by kernel_rfl, fun w' hw' => by kernel_rfl⟩) ?_
  refine takeH hS (i := 3) (d := 17) (v := .pointer (some ⟨D, 0, none⟩)) rfl rfl (by kernel_rfl) (by kernel_rfl) (by kernel_rfl) (fun _ _ _ h => h) (Or.inl ⟨by kernel_rfl, fun w' hw' => by exact exec_cellv _ rfl ⟨X, 0, none⟩ rfl (.pointer (some ⟨D, 0, none⟩)) Try.underlying45 rfl (((HX.out.kept hw' HnX.out).cell 0).trans (rfl))⟩) ?_
  try go_frame
  refine takeH hS (i := 4) (d := 18) (v := .int .i64 (z)) rfl rfl (by kernel_rfl) (by kernel_rfl) (by kernel_rfl) (fun _ _ _ h => h) (Or.inl ⟨by kernel_rfl, fun w' hw' => by kernel_rfl⟩) ?_
  refine takeH hS (i := 5) (d := 19) (v := .agg (bA t)) rfl rfl (by kernel_rfl) (by kernel_rfl) (by kernel_rfl) (fun _ _ _ h => h) (Or.inl ⟨by kernel_rfl, fun w' hw' => by exact exec_load _ rfl (w.heap.size) rfl (HS1.out.kept hw' HnS.out) Try.underlying34 rfl (info_sec H64.out)⟩) ?_
  try go_frame
  refine nextH (i := 6) rfl (by kernel_rfl) (by kernel_rfl) (fun K' hK => ?_)
  go_wp2_with fail
  refine (cap8 HP1.out.zs z t H64.out Hlt.out (HP1.out.dv.below hB0) Hn.out HP1.out.len).mono ?_
  rintro en w1c1 ⟨rfl, hT⟩
  have HT := Lib.hid (DvTo.after hB0 hT)
  have hS1 : Kept (DvF D vz l) w1 w1c1 := hS.trans (hT.keptF)
  refine hK.out _ _ ⟨hS1, ?_⟩
  clear hK K' hS
  refine takeH hS1 (i := 7) (d := 13) (v := .tuple #[.int .i64 (apSp S1.R.d S1.R.zs z t).o, .int .i64 (apSp S1.R.d S1.R.zs z t).e]) rfl rfl (by kernel_rfl) (by kernel_rfl) (by kernel_rfl) (fun _ _ _ h => h) (Or.inl ⟨by kernel_rfl, fun w' hw' => by kernel_rfl⟩) ?_
  refine takeH hS1 (i := 8) (d := 21) (v := .int .i64 ((apSp S1.R.d S1.R.zs z t).o)) rfl rfl (by kernel_rfl) (by kernel_rfl) (by kernel_rfl) (fun _ _ _ h => h) (Or.inl ⟨by kernel_rfl, fun w' hw' => by kernel_rfl⟩) ?_
  refine takeH hS1 (i := 9) (d := 22) (v := .int .i64 ((apSp S1.R.d S1.R.zs z t).e)) rfl rfl (by kernel_rfl) (by kernel_rfl) (by kernel_rfl) (fun _ _ _ h => h) (Or.inl ⟨by kernel_rfl, fun w' hw' => by kernel_rfl⟩) ?_
  refine takeH hS1 (i := 10) (d := 8) (v := .int .i64 ((apSp S1.R.d S1.R.zs z t).o)) rfl rfl (by kernel_rfl) (by kernel_rfl) (by kernel_rfl) (fun _ _ _ h => h) (Or.inl ⟨by kernel_rfl, fun w' hw' => by kernel_rfl⟩) ?_
  try go_frame
  refine takeH hS1 (i := 11) (d := 9) (v := .int .i64 ((apSp S1.R.d S1.R.zs z t).e)) rfl rfl (by kernel_rfl) (by kernel_rfl) (by kernel_rfl) (fun _ _ _ h => h) (Or.inl ⟨by kernel_rfl, fun w' hw' => by kernel_rfl⟩) ?_
  refine wpAnyH_done (by kernel_rfl) ?_ _
  try go_frame
  have HT1 := Lib.hid (PdTo.stepF Hk1.out Hi1.out (HP1.out.devTo HT.out))
  obtain ⟨l2, hP2, hk2, hi2⟩ := HP1.out.dev HT.out
  have HP2 := Lib.hid hP2
  have Hk2 := Lib.hid hk2
  have Hi2 := Lib.hid hi2
  have Hsn : Hid (Sane S1.R.d S1.R.zs) := Lib.hid HP1.out.sane
  clear hS1 HX HnX HnS HS1 HT HP1 hP2 hk2 hi2
  generalize w1c1 = w2 at *
  have hE := HE.out
  have dE : decide ((apSp S1.R.d S1.R.zs z t).e = 0) = false := decide_eq_false hE
  have dE2 : ((apSp S1.R.d S1.R.zs z t).e == 0) = false := by simp [hE]
  have HA : Hid (S.ap z t = ⟨⟨(apSp S1.R.d S1.R.zs z t).d, (apSp S1.R.d S1.R.zs z t).zs, S1.R.cs, S1.R.h⟩, S1.M⟩) := Lib.hid (by
    subst HSE
    unfold St8.ap St8.apO St8.put
    rw [if_neg hE])
  clear hE
  go_wp2_with fail
  go_ret2
  exact ⟨rfl, by rw [HA.out]; exact PdTo.after Hb0.out HT1.out⟩
set_option maxRecDepth 100000 in
set_option maxHeartbeats 2000000 in
theorem pap_ok {lo X : Nat} {w : World} {S : St8} {F : Nat → Prop} {S1 : St8} (z : Int) (t : List Nat) (h64 : t.length = 64) (hlt : ∀ b ∈ t, b < 256) (h : pdAt lo w X S F) (hf : Fine S) (hS1 : S.due z false = S1) (he : (apSp S1.R.d S1.R.zs z t).e = 0) : Calls Try.prog 25 #[.pointer (some ⟨X, 0, none⟩), .int .i64 z, .agg (bA t)] w fun en w' => en = .returned (.tuple #[.int .i64 (apSp S1.R.d S1.R.zs z t).o, .int .i64 (apSp S1.R.d S1.R.zs z t).e]) ∧ PdTo lo w X F (S.ap z t) w' := by
  have Hn : Hid (0 ≤ S1.R.d.count ∧ S1.R.d.count ≤ 1000000) := Lib.hid (hS1 ▸ h.fine hf z false)
  have hb0 := below_alloc w (Obj.cells (bA t) 34)
  have H0 := Lib.hid (pdAt.below h hb0)
  have Hb0 := Lib.hid hb0
  have HS0 := Lib.hid (Blk.new w 34 (bA t))
  have Hlw := Lib.hid HS0.out.lt
  have HnF : Hid (¬ F w.heap.size) := Lib.hid (fun hi => Nat.lt_irrefl _ (h.ltF hi))
  have Hf := Lib.hid hf.hn
  have H64 := Lib.hid h64
  have Hlt := Lib.hid hlt
  have HE := Lib.hid he
  have HSE := Lib.hid hS1
  clear h hf hb0 h64 hlt he hS1
  go_enter Try.func25, Try.ntmps25
  go_upto_region 1 with fail
  generalize w.alloc (Obj.cells (bA t) 34) = w0 at *
  go_wp2_with fail
  refine (pahead z H0.out Hf.out).mono ?_
  rw [HSE.out]
  rintro en w1 ⟨rfl, F1, ⟨D, vz, ve, l, mb, n, f, hp, rfl⟩, hk1, hi1⟩
  have HP1 := Lib.hid hp
  have Hk1 := Lib.hid hk1
  have Hi1 := Lib.hid hi1
  have HS1 := Lib.hid (HS0.out.kept hk1 HnF.out)
  have HX := Lib.hid hp.blk
  have HnX := Lib.hid hp.dvX
  have HnS : Hid (¬ DvF D vz l w.heap.size) := Lib.hid (fun hi => by
    rcases hi1 _ (.inr (.inl hi)) with h9 | h9
    · exact HnF.out h9
    · have := Hlw.out; omega)
  clear hp hk1 hi1 H0 HS0
  go_upto_region 2 with fail
  refine wp_region_held (S := fun w' => Kept (DvF D vz l) w1 w') (by kernel_rfl) ?_
  change wpAnyH _ _ _ _ _ _ _ _ (World.drew _)
  have hS : Kept (DvF D vz l) w1 w1.drew := (Kept.refl _ _).drew
  have hB0 : Below w1.heap.size w1 w1.drew := (Below.refl _ _).drew
  refine takeH hS (i := 0) (d := 14) (v := .pointer (some ⟨X, 0, none⟩)) rfl rfl (by kernel_rfl) (by kernel_rfl) (by kernel_rfl) (fun _ _ _ h => h) (Or.inl ⟨by kernel_rfl, fun w' hw' => by kernel_rfl⟩) ?_
  refine takeH hS (i := 1) (d := 15) (v := .pointer (some ⟨X, 0, none⟩)) rfl rfl (by kernel_rfl) (by kernel_rfl) (by kernel_rfl) (fun _ _ _ h => h) (Or.inl ⟨by kernel_rfl, fun w' hw' => by kernel_rfl⟩) ?_
  refine takeH hS (i := 2) (d := 16) (v := .pointer (some ⟨X, 0, none⟩)) rfl rfl (by kernel_rfl) (by kernel_rfl) (by kernel_rfl) (fun _ _ _ h => h) (Or.inl ⟨by kernel_rfl, fun w' hw' => by kernel_rfl⟩) ?_
  refine takeH hS (i := 3) (d := 17) (v := .pointer (some ⟨D, 0, none⟩)) rfl rfl (by kernel_rfl) (by kernel_rfl) (by kernel_rfl) (fun _ _ _ h => h) (Or.inl ⟨by kernel_rfl, fun w' hw' => by exact exec_cellv _ rfl ⟨X, 0, none⟩ rfl (.pointer (some ⟨D, 0, none⟩)) Try.underlying45 rfl (((HX.out.kept hw' HnX.out).cell 0).trans (rfl))⟩) ?_
  try go_frame
  refine takeH hS (i := 4) (d := 18) (v := .int .i64 (z)) rfl rfl (by kernel_rfl) (by kernel_rfl) (by kernel_rfl) (fun _ _ _ h => h) (Or.inl ⟨by kernel_rfl, fun w' hw' => by kernel_rfl⟩) ?_
  refine takeH hS (i := 5) (d := 19) (v := .agg (bA t)) rfl rfl (by kernel_rfl) (by kernel_rfl) (by kernel_rfl) (fun _ _ _ h => h) (Or.inl ⟨by kernel_rfl, fun w' hw' => by exact exec_load _ rfl (w.heap.size) rfl (HS1.out.kept hw' HnS.out) Try.underlying34 rfl (info_sec H64.out)⟩) ?_
  try go_frame
  refine nextH (i := 6) rfl (by kernel_rfl) (by kernel_rfl) (fun K' hK => ?_)
  go_wp2_with fail
  refine (cap8 HP1.out.zs z t H64.out Hlt.out (HP1.out.dv.below hB0) Hn.out HP1.out.len).mono ?_
  rintro en w1c1 ⟨rfl, hT⟩
  have HT := Lib.hid (DvTo.after hB0 hT)
  have hS1 : Kept (DvF D vz l) w1 w1c1 := hS.trans (hT.keptF)
  refine hK.out _ _ ⟨hS1, ?_⟩
  clear hK K' hS
  refine takeH hS1 (i := 7) (d := 13) (v := .tuple #[.int .i64 (apSp S1.R.d S1.R.zs z t).o, .int .i64 (apSp S1.R.d S1.R.zs z t).e]) rfl rfl (by kernel_rfl) (by kernel_rfl) (by kernel_rfl) (fun _ _ _ h => h) (Or.inl ⟨by kernel_rfl, fun w' hw' => by kernel_rfl⟩) ?_
  refine takeH hS1 (i := 8) (d := 21) (v := .int .i64 ((apSp S1.R.d S1.R.zs z t).o)) rfl rfl (by kernel_rfl) (by kernel_rfl) (by kernel_rfl) (fun _ _ _ h => h) (Or.inl ⟨by kernel_rfl, fun w' hw' => by kernel_rfl⟩) ?_
  refine takeH hS1 (i := 9) (d := 22) (v := .int .i64 ((apSp S1.R.d S1.R.zs z t).e)) rfl rfl (by kernel_rfl) (by kernel_rfl) (by kernel_rfl) (fun _ _ _ h => h) (Or.inl ⟨by kernel_rfl, fun w' hw' => by kernel_rfl⟩) ?_
  refine takeH hS1 (i := 10) (d := 8) (v := .int .i64 ((apSp S1.R.d S1.R.zs z t).o)) rfl rfl (by kernel_rfl) (by kernel_rfl) (by kernel_rfl) (fun _ _ _ h => h) (Or.inl ⟨by kernel_rfl, fun w' hw' => by kernel_rfl⟩) ?_
  try go_frame
  refine takeH hS1 (i := 11) (d := 9) (v := .int .i64 ((apSp S1.R.d S1.R.zs z t).e)) rfl rfl (by kernel_rfl) (by kernel_rfl) (by kernel_rfl) (fun _ _ _ h => h) (Or.inl ⟨by kernel_rfl, fun w' hw' => by kernel_rfl⟩) ?_
  refine wpAnyH_done (by kernel_rfl) ?_ _
  try go_frame
  have HT1 := Lib.hid (PdTo.stepF Hk1.out Hi1.out (HP1.out.devTo HT.out))
  obtain ⟨l2, hP2, hk2, hi2⟩ := HP1.out.dev HT.out
  have HP2 := Lib.hid hP2
  have Hk2 := Lib.hid hk2
  have Hi2 := Lib.hid hi2
  have Hsn : Hid (Sane S1.R.d S1.R.zs) := Lib.hid HP1.out.sane
  clear hS1 HX HnX HnS HS1 HT HP1 hP2 hk2 hi2
  generalize w1c1 = w2 at *
  have hE := HE.out
  have dE : decide ((apSp S1.R.d S1.R.zs z t).e = 0) = true := decide_eq_true hE
  have HA : Hid (S.ap z t = ⟨⟨(apSp S1.R.d S1.R.zs z t).d, (apSp S1.R.d S1.R.zs z t).zs, S1.R.cs, S1.R.h⟩, mk0 S1.M z (apSp S1.R.d S1.R.zs z t).o⟩) := Lib.hid (by
    subst HSE
    unfold St8.ap St8.apO St8.put
    rw [if_pos hE])
  obtain ⟨kz, ko⟩ := ap_keys Hsn.out hE
  obtain ⟨L, hL⟩ := key_pl kz ko
  have HL := Lib.hid hL
  have c3 := HP2.out.c3
  have dE2 : ((apSp S1.R.d S1.R.zs z t).e == 0) = true := by simp [hE]
  clear hE kz ko hL
  go_wp2_with (first | (refine wpl_dropF (by rfl) Try.keyPl kvP_inj Try.underlying89 _ _ rfl (z, (apSp S1.R.d S1.R.zs z t).o) HL.out rfl rfl HP2.out.mp (f' := fun k => if k = (z, (apSp S1.R.d S1.R.zs z t).o) then none else f k) (if_pos rfl) (fun k hk => if_neg hk) ?_; intro w3 hm3 hk3; have HM3 := Lib.hid hm3; have HK3 := Lib.hid hk3; clear hm3 hk3; go_frame))
  go_ret2
  refine ⟨rfl, ?_⟩
  rw [HA.out]
  refine PdTo.after Hb0.out (PdTo.stepF Hk1.out Hi1.out (PdTo.nextK Hk2.out Hi2.out (HP2.out.mapTo HM3.out HK3.out (fun z' o' => ?_) (fun z' o' => ?_) (fun z' o' => ?_))))
  · unfold mk0
    by_cases hz : z' = z ∧ o' = (apSp S1.R.d S1.R.zs z t).o
    · obtain ⟨rfl, rfl⟩ := hz
      simp
    · rw [if_neg hz]
      have : ¬ ((z', o') = (z, (apSp S1.R.d S1.R.zs z t).o)) := fun h9 => hz (by simpa using h9)
      simp only [if_neg this]
      exact HP2.out.mkf z' o'
  · unfold mk0
    split
    · exact ⟨zeros_length 64, zeros_lt 64⟩
    · exact HP2.out.m64 z' o'
  · unfold mk0
    split
    · exact ⟨Int.le_refl _, by show (0 : Int) ≤ _; omega⟩
    · exact HP2.out.mn z' o'
theorem pap {lo X : Nat} {w : World} {S : St8} {F : Nat → Prop} (z : Int) (t : List Nat) (h64 : t.length = 64) (hlt : ∀ b ∈ t, b < 256) (h : pdAt lo w X S F) (hf : Fine S) : Calls Try.prog 25 #[.pointer (some ⟨X, 0, none⟩), .int .i64 z, .agg (bA t)] w fun en w' => en = .returned (.tuple #[.int .i64 (S.apO z t).o, .int .i64 (S.apO z t).e]) ∧ PdTo lo w X F (S.ap z t) w' := by
  by_cases he : (apSp (S.due z false).R.d (S.due z false).R.zs z t).e = 0
  · exact pap_ok z t h64 hlt h hf rfl he
  · exact pap_no z t h64 hlt h hf rfl he
theorem dnew_bad8 (n size opn : Int) (w : World) (h : ¬ ((1 ≤ n ∧ n ≤ 512) ∧ (1 ≤ size ∧ size ≤ 64) ∧ 1 ≤ opn ∧ opn ≤ 64)) : Calls Try.prog 53 #[.int .i64 n, .int .i64 size, .int .i64 opn] w fun e w' => e = .returned (.tuple #[.pointer none, .int .i64 13]) ∧ Below w.heap.size w w' := by
  cases h1 : (decide (1 ≤ n) && decide (n ≤ 512)) with
  | false =>
    refine (dnew_no n size opn w (.inl h1)).mono ?_
    rintro e w' ⟨rfl, rfl⟩
    exact ⟨rfl, Below.refl _ _⟩
  | true =>
    cases h2 : (decide (1 ≤ opn) && decide (opn ≤ 64)) with
    | false =>
      refine (dnew_no n size opn w (.inr h2)).mono ?_
      rintro e w' ⟨rfl, rfl⟩
      exact ⟨rfl, Below.refl _ _⟩
    | true =>
      have h3 : 1 ≤ n ∧ n ≤ 512 := by simpa using h1
      have h4 : 1 ≤ opn ∧ opn ≤ 64 := by simpa using h2
      exact dnew_size n size opn w h1 h2 (by omega)
set_option maxRecDepth 100000 in
set_option maxHeartbeats 2000000 in
theorem pnewNo {w : World} (n size opn : Int) (h : ¬ ((1 ≤ n ∧ n ≤ 512) ∧ (1 ≤ size ∧ size ≤ 64) ∧ 1 ≤ opn ∧ opn ≤ 64)) : Calls Try.prog 24 #[.int .i64 n, .int .i64 size, .int .i64 opn] w fun e w' => e = .returned (.tuple #[.pointer none, .int .i64 13]) ∧ Below w.heap.size w w' := by
  have H := Lib.hid h
  clear h
  go_enter Try.func24, Try.ntmps24
  go_wp2_with fail
  refine (dnew_bad8 n size opn w H.out).mono ?_
  rintro e w1 ⟨rfl, hb⟩
  have HB := Lib.hid hb
  clear hb
  go_wp2_with fail
  go_ret2
  exact ⟨rfl, HB.out⟩
set_option maxRecDepth 100000 in
set_option maxHeartbeats 2000000 in
theorem pnew {lo : Nat} {w : World} (n : Nat) (size opn : Int) (h1 : 1 ≤ n ∧ n ≤ 512) (h2 : 1 ≤ opn ∧ opn ≤ 64) (h3 : 1 ≤ size ∧ size ≤ 64) (hlo : lo ≤ w.heap.size) : Calls Try.prog 24 #[.int .i64 (n : Nat), .int .i64 size, .int .i64 opn] w fun e w' => ∃ X F, e = .returned (.tuple #[.pointer (some ⟨X, 0, none⟩), .int .i64 0]) ∧ pdAt lo w' X (st80 n size opn) F ∧ Below w.heap.size w w' := by
  have Hlo := Lib.hid hlo
  have H1 := Lib.hid h1
  have H2 := Lib.hid h2
  have H3 := Lib.hid h3
  clear h1 h2 h3 hlo
  go_enter Try.func24, Try.ntmps24
  go_wp2_with fail
  refine (dnew_ok n size opn w H1.out H2.out H3.out Hlo.out).mono ?_
  rintro e w1 ⟨rfl, ⟨vz, l, hA, hm⟩, hb⟩
  have HA := Lib.hid hA
  have Hm := Lib.hid hm
  have Hb := Lib.hid hb
  clear hA hm hb
  have hmk : ∀ W : World, (Instr.makeMap 89 none).run Try.prog W = .ok (.map (some W.heap.size)) (W.alloc (.map #[] 0)) := fun W => rfl
  go_wp2_with fail
  go_ret2
  have hl : l.length ≤ 1000 := by
    have h9 := congrArg List.length Hm.out
    rw [List.length_map, List.length_replicate] at h9
    have := H1.out.2
    omega
  have hb2 := below_alloc w1 (Obj.map #[] 0)
  have hb3 := below_alloc (w1.alloc (Obj.map #[] 0)) (Obj.cells (pdA w.heap.size (.slice none 0 0) 0 w1.heap.size) 91)
  refine ⟨_, _, rfl, ⟨w.heap.size, vz, .slice none 0 0, l, w1.heap.size, 0, fun _ => none, ⟨by have h9 := Blk.new (w1.alloc (Obj.map #[] 0)) 91 (pdA w.heap.size (.slice none 0 0) 0 w1.heap.size); rwa [show (w1.alloc (Obj.map #[] 0)).heap.size = w1.heap.size + 1 by simp] at h9, (HA.out.below hb2).below hb3, Hm.out, RowE.nil _ _ _, (MapF.made _ _ _ _ w1).below hb3, fun _ _ => rfl, fun _ _ => ⟨zeros_length 64, zeros_lt 64⟩, fun _ _ => ⟨Int.le_refl _, Int.le_refl _⟩, hl, List.Pairwise.nil, ?_, ?_⟩, rfl⟩, bthen (bthen Hb.out hb2) hb3⟩
  · exact Nat.le_trans Hlo.out (Nat.le_trans Hb.out.size (Nat.le_succ _))
  · exact Nat.le_trans Hlo.out Hb.out.size
end Go.Proofs.Ytajkajgnjcnolaa

