/- The document's Bucket, RecoverOps. -/
import Derived.Test.YtfhpdcimdeilpaaDf
namespace Go.Proofs.Ytfhpdcimdeilpaa.st
open Go.ChangeShapes Go.WideShapes Go.ChangeAt Go.RowKit Go.Proofs.Ytfhpdcimdeilpaa.hp
set_option linter.unusedVariables false
set_option linter.unusedSimpArgs false

theorem rmayb_any (w : World) (K : Cf) (hK : okC K) (b : Int) : Calls Try.prog 75 #[.int .i64 (K.h : Int), .int .i64 b] w fun e w' => e = .returned (.bool (decide (0 ≤ b ∧ b < (bucketsN K : Int)))) ∧ w' = w := by
  have H1 : Hid (∀ W, Calls Try.prog 54 #[.int .i64 (K.h : Int)] W fun e w' => e = .returned (.bool true) ∧ w' = W) := fun W => by
    have := rmayh_any W (K.h : Int)
    have hh := hK.h
    rw [decide_eq_true ⟨by omega, by omega⟩] at this
    exact this
  have H2 : Hid (∀ W, Calls Try.prog 61 #[.int .i64 (K.h : Int)] W fun e w' => e = .returned (.int .i64 ((bucketsN K : Nat) : Int)) ∧ w' = W) := fun W => rbuckets_any W K.h hK.h
  obtain ⟨N, hN⟩ : ∃ N, bucketsN K = N := ⟨_, rfl⟩
  obtain ⟨h, hh⟩ : ∃ h, K.h = h := ⟨_, rfl⟩
  simp only [hN, hh] at H1 H2 ⊢
  clear hK hN hh
  by_cases hb : 0 ≤ b
  · go_enter Try.func75, Try.ntmps75
    go_wp2_with fail
    refine (H1.out _).mono ?_
    rintro e w2 ⟨rfl, hw⟩
    subst hw
    go_wp2_with fail
    refine (H2.out _).mono ?_
    rintro e w3 ⟨rfl, hw⟩
    subst hw
    go_wp2
    go_ret
    exact ⟨ret_bool (by simp [hb]), rfl⟩
  · go_enter Try.func75, Try.ntmps75
    go_wp2_with fail
    refine (H1.out _).mono ?_
    rintro e w2 ⟨rfl, hw⟩
    subst hw
    go_wp2
    go_ret
    exact ⟨ret_bool (by have e : decide (0 ≤ b) = false := decide_eq_false (by omega)
                        rw [e]
                        rfl), rfl⟩

theorem rbucketA (w : World) (K : Cf) (hK : okC K) (a : Option Addr) (n c : Nat) (b v : Int) : Calls Try.prog 39 #[cfgV K (.slice a n c), .int .i64 b, .int .i64 v] w fun e w' => e = .returned (.int .i64 (bucketA K b v)) ∧ Chg no w w' := by
  have hst := st_le hK
  obtain ⟨_, hb2⟩ := buckets_le hK
  have HM : Hid (∀ W, _) := fun W => rmayb_any W K hK b
  have HSt : Hid (∀ W, _) := fun W => rstarts_any W K hK a n c
  obtain ⟨N, hN⟩ : ∃ N, bucketsN K = N := ⟨_, rfl⟩
  obtain ⟨s4, h4⟩ : ∃ x, st4 K = x := ⟨_, rfl⟩
  obtain ⟨R, hR⟩ : ∃ R, bucketA K b v = R := ⟨_, rfl⟩
  simp only [hN, h4, hR] at HM HSt hst hb2 ⊢
  unfold bucketA at hR
  rw [hN, h4] at hR
  have ia := arr_at4
  have hs4 : (s4 : Int) ≤ 1294 := by omega
  by_cases hb : 0 ≤ b ∧ b < (N : Int)
  · rw [decide_eq_true hb] at HM
    by_cases hv0 : v < 0
    · rw [if_neg (by omega)] at hR
      subst hR
      obtain ⟨h, z, b', r, rd, wr, s, p, q, t⟩ := K
      clear hK h4 hN hst hb2 hb
      go_enter Try.func39, Try.ntmps39
      go_wp2_with fail
      refine (HM.out _).mono ?_
      rintro e w2 ⟨rfl, hw⟩
      subst hw
      go_wp2
      go_ret
      exact ⟨rfl, (Chg.refl no w).alloc _⟩
    · by_cases hv1 : 1 < v
      · rw [if_neg (by omega)] at hR
        subst hR
        obtain ⟨h, z, b', r, rd, wr, s, p, q, t⟩ := K
        clear hK h4 hN hst hb2 hb
        go_enter Try.func39, Try.ntmps39
        go_wp2_with fail
        refine (HM.out _).mono ?_
        rintro e w2 ⟨rfl, hw⟩
        subst hw
        go_wp2
        go_ret
        exact ⟨rfl, (Chg.refl no w).alloc _⟩
      · rw [if_pos ⟨hb.1, hb.2, by omega, by omega⟩] at hR
        obtain ⟨hb, hbN⟩ := hb
        have hb127 : b ≤ 127 := by omega
        obtain ⟨h, z, b', r, rd, wr, s, p, q, t⟩ := K
        clear hK h4 hN hst hb2
        go_enter Try.func39, Try.ntmps39
        go_wp2_with fail
        refine (HM.out _).mono ?_
        rintro e w2 ⟨rfl, hw⟩
        subst hw
        go_wp2_with fail
        refine (HSt.out _).mono ?_
        rintro e w3 ⟨rfl, k3⟩
        go_wp2
        go_ret
        exact ⟨by first | rfl | exact ret_int hR, ((Chg.refl no w).alloc _).then k3⟩
  · rw [decide_eq_false hb] at HM
    rw [if_neg (by omega)] at hR
    subst hR
    obtain ⟨h, z, b', r, rd, wr, s, p, q, t⟩ := K
    clear hK h4 hN hst hb2 hb
    go_enter Try.func39, Try.ntmps39
    go_wp2_with fail
    refine (HM.out _).mono ?_
    rintro e w2 ⟨rfl, hw⟩
    subst hw
    go_wp2
    go_ret
    exact ⟨rfl, (Chg.refl no w).alloc _⟩

/-- How much a recovery does. -/
def recA (K : Cf) (i j : Int) : Int := if 0 ≤ i ∧ 0 ≤ j then 4 + ((cFull K : Nat) : Int) + ((i.toNat % K.p : Nat) : Int) * (deltaA K 1).2 + ((slotsN K : Nat) : Int) * ((cLog K : Nat) : Int) + ((cClog K : Nat) : Int) + 2 * j * ((K.h : Int) + 1) + (checkA K (i + 1)).2 + 3 else 0

theorem rrec_no (w : World) (K : Cf) (a : Option Addr) (n c : Nat) (i j : Int) (hi : i < 0 ∨ j < 0) : Calls Try.prog 45 #[cfgV K (.slice a n c), .int .i64 i, .int .i64 j] w fun e w' => e = .returned (.int .i64 0) ∧ Chg no w w' := by
  obtain ⟨h, z, b, r, rd, wr, s, p, q, t⟩ := K
  by_cases h0 : i < 0
  · clear hi
    go_enter Try.func45, Try.ntmps45
    go_wp2
    go_ret
    exact ⟨rfl, (Chg.refl no w).alloc _⟩
  · have h1 : j < 0 := by omega
    clear hi
    go_enter Try.func45, Try.ntmps45
    go_wp2
    go_ret
    exact ⟨rfl, (Chg.refl no w).alloc _⟩

theorem delta_le {K : Cf} (hK : okC K) (i : Int) : 0 ≤ (deltaA K i).2 ∧ (deltaA K i).2 ≤ 75 := by
  have h2 := (small hK).delta
  unfold deltaA
  split <;> simp only <;> omega

set_option maxRecDepth 100000 in
set_option maxHeartbeats 8000000 in
theorem rrec_any (w : World) (K : Cf) (hK : okC K) (a : Option Addr) (n c : Nat) (i j : Nat) (hi : (i : Int) ≤ 4611686018427387903) (hj : (j : Int) ≤ 2097152) : Calls Try.prog 45 #[cfgV K (.slice a n c), .int .i64 (i : Int), .int .i64 (j : Int)] w fun e w' => e = .returned (.int .i64 (recA K (i : Int) (j : Int))) ∧ Chg no w w' := by
  have sm := small hK
  have hl := check_le hK ((i : Int) + 1)
  have hdl := delta_le hK 1
  have hh := hK.h
  have htt := hK.t
  have hp := hK.p
  have hb1 := hK.b
  have hs1 := hK.s
  obtain ⟨hk1, hk2⟩ := buckets_le hK
  have e1 : stashN K ≤ 2433 := by unfold stashN; omega
  obtain ⟨_, hS, _⟩ := slots_le hK
  have HSl : Hid (∀ W, _) := fun W => rslots_any W K hK a n c
  have HC12 : Hid (∀ W, Calls Try.prog 65 #[cfgV K (.slice a n c), .int .i64 12] W fun e w' => e = .returned (.int .i64 ((cLog K : Nat) : Int)) ∧ Chg no W w') := fun W => rcells_any W K hK a n c 12 (by omega) (by omega)
  have HCh : Hid (∀ W, _) := fun W => rcheckA W K hK a n c ((i : Int) + 1) (by omega)
  have HDe : Hid (∀ W, _) := fun W => rdeltaA W K hK a n c 1 (by omega)
  have HCl : Hid (∀ W, _) := fun W => rclog_any W K hK a n c
  have HCc : Hid (∀ W, Calls Try.prog 65 #[cfgV K (.slice a n c), .int .i64 ((clogN K : Nat) : Int)] W fun e w' => e = .returned (.int .i64 ((cClog K : Nat) : Int)) ∧ Chg no W w') := fun W => rcells_any W K hK a n c (clogN K) (by unfold clogN; omega) (by unfold clogN; omega)
  have HFl : Hid (∀ W, _) := fun W => rfull_any W K hK a n c
  have HFc : Hid (∀ W, Calls Try.prog 65 #[cfgV K (.slice a n c), .int .i64 ((fullN K : Nat) : Int)] W fun e w' => e = .returned (.int .i64 ((cFull K : Nat) : Int)) ∧ Chg no W w') := fun W => rcells_any W K hK a n c (fullN K) (by unfold fullN; omega) (by unfold fullN; omega)
  have f1 := sm.log
  have f2 := sm.clog
  have f3 := sm.full
  have hmod := Nat.mod_lt i hp.1
  have hr : (i : Int).tmod (K.p : Int) = ((i % K.p : Nat) : Int) := rfl
  have ht : recA K (i : Int) (j : Int) = 4 + ((cFull K : Nat) : Int) + ((i % K.p : Nat) : Int) * (deltaA K 1).2 + ((slotsN K : Nat) : Int) * ((cLog K : Nat) : Int) + ((cClog K : Nat) : Int) + 2 * (j : Int) * ((K.h : Int) + 1) + (checkA K ((i : Int) + 1)).2 + 3 := by
    unfold recA
    rw [if_pos ⟨by omega, by omega⟩, Int.toNat_natCast]
  obtain ⟨R, hR⟩ : ∃ R, recA K (i : Int) (j : Int) = R := ⟨_, rfl⟩
  obtain ⟨A, hA⟩ : ∃ A, slotsN K = A := ⟨_, rfl⟩
  obtain ⟨L, hL⟩ : ∃ L, cLog K = L := ⟨_, rfl⟩
  obtain ⟨M, hM⟩ : ∃ M, cClog K = M := ⟨_, rfl⟩
  obtain ⟨F, hF⟩ : ∃ M, cFull K = M := ⟨_, rfl⟩
  obtain ⟨lc, hlc⟩ : ∃ x, clogN K = x := ⟨_, rfl⟩
  obtain ⟨lf, hlf⟩ : ∃ x, fullN K = x := ⟨_, rfl⟩
  obtain ⟨u, hu⟩ : ∃ u, (checkA K ((i : Int) + 1)).1 = u := ⟨_, rfl⟩
  obtain ⟨v, hv⟩ : ∃ v, (checkA K ((i : Int) + 1)).2 = v := ⟨_, rfl⟩
  obtain ⟨du, hdu⟩ : ∃ u, (deltaA K 1).1 = u := ⟨_, rfl⟩
  obtain ⟨dv, hdv⟩ : ∃ v, (deltaA K 1).2 = v := ⟨_, rfl⟩
  obtain ⟨m, hm⟩ : ∃ m, i % K.p = m := ⟨_, rfl⟩
  simp only [hR, hA, hL, hM, hF, hlc, hlf, areaV, hu, hv, hdu, hdv, hm] at HSl HC12 HCh HDe HCl HCc HFl HFc f1 f2 f3 ht hl hdl hS hmod hr ⊢
  have hp2 : 2 * (j : Int) * ((K.h : Int) + 1) ≤ 29360128 ∧ 0 ≤ 2 * (j : Int) * ((K.h : Int) + 1) := by
    have e : 2 * (j : Int) * ((K.h : Int) + 1) = ((2 * j * (K.h + 1) : Nat) : Int) := by rw [Int.natCast_mul, Int.natCast_mul]; rfl
    have : 2 * j * (K.h + 1) ≤ 4194304 * 7 := Nat.mul_le_mul (by omega) (by omega)
    rw [e]
    omega
  have hq : (A : Int) * (L : Int) ≤ 40 ∧ 0 ≤ (A : Int) * (L : Int) := by
    rw [f1]
    omega
  have hmd : (m : Int) * dv ≤ 525 ∧ 0 ≤ (m : Int) * dv := by
    obtain ⟨dn, rfl⟩ : ∃ dn : Nat, dv = dn := ⟨dv.toNat, by omega⟩
    have e : (m : Int) * (dn : Int) = ((m * dn : Nat) : Int) := by rw [Int.natCast_mul]
    have : m * dn ≤ 7 * 75 := Nat.mul_le_mul (by omega) (by omega)
    rw [e]
    omega
  obtain ⟨hp2, hp2'⟩ := hp2
  obtain ⟨hq, hq'⟩ := hq
  obtain ⟨hmd, hmd'⟩ := hmd
  obtain ⟨hl, hl'⟩ := hl
  have hhi : (K.h : Int) ≤ 6 := by omega
  have hFi : (F : Int) ≤ 92 := by omega
  have hMi : (M : Int) ≤ 9 := by omega
  have hi0 : ¬ (i : Int) < 0 := by omega
  have hj0 : ¬ (j : Int) < 0 := by omega
  have hp0 : (K.p : Int) ≠ 0 := by omega
  have ht' : Hid (R = 4 + (F : Int) + (m : Int) * dv + (A : Int) * (L : Int) + (M : Int) + 2 * (j : Int) * ((K.h : Int) + 1) + v + 3) := ht
  have hf : ∀ w, (Instr.field 37 (.agg #[.int .i64 u, .int .i64 v]) 1).run Try.prog w = .ok (.int .i64 v) w := fun _ => by kernel_rfl
  have hf' : ∀ w, (Instr.field 37 (.agg #[.int .i64 du, .int .i64 dv]) 1).run Try.prog w = .ok (.int .i64 dv) w := fun _ => by kernel_rfl
  obtain ⟨h, z, b, r, rd, wr, s, p, q, t⟩ := K
  try simp only at *
  clear hK sm hh hp htt hS f1 f2 f3 hR hA hL hM hF hlc hlf hu hv hdu hdv hm ht hdl hmod hk1 hk2 e1 hb1 hs1
  go_enter Try.func45, Try.ntmps45
  go_wp2_with fail
  obtain ⟨w1, hw1⟩ : ∃ w1, w.alloc (cfgO h z b r rd wr s p q t (.slice a n c)) = w1 := ⟨_, rfl⟩
  have hb : w1.heap[w.heap.size]? = some (cfgO h z b r rd wr s p q t (.slice a n c)) := by rw [← hw1]; exact heap_alloc_new w _
  have HK1 : Hid (Chg no w w1) := by rw [← hw1]; exact (Chg.refl no w).alloc _
  rw [hw1]
  obtain ⟨g, hg⟩ : ∃ g, w.heap.size = g := ⟨_, rfl⟩
  rw [hg] at hb ⊢
  clear hw1 hg
  obtain ⟨pK, hpK⟩ : ∃ pK : World → Prop, ∀ w', pK w' ↔ Chg no w1 w' := ⟨_, fun _ => Iff.rfl⟩
  obtain ⟨x0, x1, x2, x3, x4, x5, x6, x7, x8, x9, x10, iK⟩ := cfg_facts hpK hb
  have HpK : Hid (∀ w', pK w' ↔ Chg no w1 w') := hpK
  have Y0 : Chg no w1 w1.drew := (Chg.refl no w1).drew
  clear hpK hb
  refine far.region_farM (fun κ w' => pK w') [2, 3, 10, 15, 17, 22, 23, 35] (by kernel_rfl) (by kernel_rfl) ((HpK.out _).2 Y0) ?_
  intro LP e1' e2' e3'
  refine far.farO_stretch pK 2 0 8 e1' e2' e3' (by kernel_rfl) (by kernel_rfl) (fun κ w' hk1 hk2 hC => hC) ?_
  simp only [List.take_succ_cons, List.take_zero, List.drop_succ_cons, List.drop_zero, Nat.reduceAdd]
  repeat (go_big_quiet_step (fail))
  refine wpQuiet_nil ?_
  refine far.farO_enter e1' e2' 0 rfl rfl 24 #[cfgV ⟨h, z, b, r, rd, wr, s, p, q, t⟩ (.slice a n c)] (by kernel_rfl) (by kernel_rfl) ?_
  refine (HFl.out _).mono ?_
  rintro e w2 ⟨rfl, k1⟩
  have Y1 := Y0.then k1
  refine ⟨_, rfl, (HpK.out _).2 Y1, ?_⟩
  simp only [Act.put, List.setIfInBounds_toArray, List.set_cons_succ, List.set_cons_zero, Nat.reduceAdd]
  refine far.farO_enter e1' e2' 1 rfl rfl 65 #[cfgV ⟨h, z, b, r, rd, wr, s, p, q, t⟩ (.slice a n c), .int .i64 (lf : Int)] (by kernel_rfl) (by kernel_rfl) ?_
  refine (HFc.out _).mono ?_
  rintro e w3 ⟨rfl, k2⟩
  have Y2 := Y1.then k2
  refine ⟨_, rfl, (HpK.out _).2 Y2, ?_⟩
  simp only [Act.put, List.setIfInBounds_toArray, List.set_cons_succ, List.set_cons_zero, Nat.reduceAdd]
  refine far.farO_stretch pK 6 0 8 e1' e2' e3' (by kernel_rfl) (by kernel_rfl) (fun κ w' hk1 hk2 hC => hC) ?_
  simp only [List.take_succ_cons, List.take_zero, List.drop_succ_cons, List.drop_zero, Nat.reduceAdd]
  repeat (go_big_quiet_step (fail))
  refine wpQuiet_nil ?_
  refine far.farO_enter e1' e2' 2 rfl rfl 33 #[cfgV ⟨h, z, b, r, rd, wr, s, p, q, t⟩ (.slice a n c), .int .i64 1] (by kernel_rfl) (by kernel_rfl) ?_
  refine (HDe.out _).mono ?_
  rintro e w4 ⟨rfl, k3⟩
  have Y3 := Y2.then k3
  refine ⟨_, rfl, (HpK.out _).2 Y3, ?_⟩
  simp only [Act.put, List.setIfInBounds_toArray, List.set_cons_succ, List.set_cons_zero, Nat.reduceAdd]
  refine far.farO_stretch pK 4 0 8 e1' e2' e3' (by kernel_rfl) (by kernel_rfl) (fun κ w' hk1 hk2 hC => hC) ?_
  simp only [List.take_succ_cons, List.take_zero, List.drop_succ_cons, List.drop_zero, Nat.reduceAdd]
  repeat (go_big_quiet_step (fail))
  refine wpQuiet_nil ?_
  refine far.farO_enter e1' e2' 3 rfl rfl 17 #[cfgV ⟨h, z, b, r, rd, wr, s, p, q, t⟩ (.slice a n c)] (by kernel_rfl) (by kernel_rfl) ?_
  refine (HSl.out _).mono ?_
  rintro e w5 ⟨rfl, k4⟩
  have Y4 := Y3.then k4
  refine ⟨_, rfl, (HpK.out _).2 Y4, ?_⟩
  simp only [Act.put, List.setIfInBounds_toArray, List.set_cons_succ, List.set_cons_zero, Nat.reduceAdd]
  refine far.farO_stretch pK 1 0 8 e1' e2' e3' (by kernel_rfl) (by kernel_rfl) (fun κ w' hk1 hk2 hC => hC) ?_
  simp only [List.take_succ_cons, List.take_zero, List.drop_succ_cons, List.drop_zero, Nat.reduceAdd]
  repeat (go_big_quiet_step (fail))
  refine wpQuiet_nil ?_
  refine far.farO_enter e1' e2' 4 rfl rfl 65 #[cfgV ⟨h, z, b, r, rd, wr, s, p, q, t⟩ (.slice a n c), .int .i64 12] (by kernel_rfl) (by kernel_rfl) ?_
  refine (HC12.out _).mono ?_
  rintro e w6 ⟨rfl, k5⟩
  have Y5 := Y4.then k5
  refine ⟨_, rfl, (HpK.out _).2 Y5, ?_⟩
  simp only [Act.put, List.setIfInBounds_toArray, List.set_cons_succ, List.set_cons_zero, Nat.reduceAdd]
  refine far.farO_stretch pK 4 0 8 e1' e2' e3' (by kernel_rfl) (by kernel_rfl) (fun κ w' hk1 hk2 hC => hC) ?_
  simp only [List.take_succ_cons, List.take_zero, List.drop_succ_cons, List.drop_zero, Nat.reduceAdd]
  repeat (go_big_quiet_step (fail))
  refine wpQuiet_nil ?_
  refine far.farO_enter e1' e2' 5 rfl rfl 26 #[cfgV ⟨h, z, b, r, rd, wr, s, p, q, t⟩ (.slice a n c)] (by kernel_rfl) (by kernel_rfl) ?_
  refine (HCl.out _).mono ?_
  rintro e w7 ⟨rfl, k6⟩
  have Y6 := Y5.then k6
  refine ⟨_, rfl, (HpK.out _).2 Y6, ?_⟩
  simp only [Act.put, List.setIfInBounds_toArray, List.set_cons_succ, List.set_cons_zero, Nat.reduceAdd]
  refine far.farO_enter e1' e2' 6 rfl rfl 65 #[cfgV ⟨h, z, b, r, rd, wr, s, p, q, t⟩ (.slice a n c), .int .i64 (lc : Int)] (by kernel_rfl) (by kernel_rfl) ?_
  refine (HCc.out _).mono ?_
  rintro e w8 ⟨rfl, k7⟩
  have Y7 := Y6.then k7
  refine ⟨_, rfl, (HpK.out _).2 Y7, ?_⟩
  simp only [Act.put, List.setIfInBounds_toArray, List.set_cons_succ, List.set_cons_zero, Nat.reduceAdd]
  refine far.farO_stretch pK 11 0 8 e1' e2' e3' (by kernel_rfl) (by kernel_rfl) (fun κ w' hk1 hk2 hC => hC) ?_
  simp only [List.take_succ_cons, List.take_zero, List.drop_succ_cons, List.drop_zero, Nat.reduceAdd]
  repeat (go_big_quiet_step (fail))
  refine wpQuiet_nil ?_
  refine far.farO_enter e1' e2' 7 rfl rfl 37 #[cfgV ⟨h, z, b, r, rd, wr, s, p, q, t⟩ (.slice a n c), .int .i64 ((i : Int) + 1)] (by kernel_rfl) (by kernel_rfl) ?_
  refine (HCh.out _).mono ?_
  rintro e w9 ⟨rfl, k8⟩
  have Y8 := Y7.then k8
  refine ⟨_, rfl, (HpK.out _).2 Y8, ?_⟩
  simp only [Act.put, List.setIfInBounds_toArray, List.set_cons_succ, List.set_cons_zero, Nat.reduceAdd]
  refine far.farO_stretch pK 4 0 8 e1' e2' e3' (by kernel_rfl) (by kernel_rfl) (fun κ w' hk1 hk2 hC => hC) ?_
  simp only [List.take_succ_cons, List.take_zero, List.drop_succ_cons, List.drop_zero, Nat.reduceAdd]
  repeat (go_big_quiet_step (fail))
  refine wpQuiet_nil ?_
  refine far.farO_nil ?_
  go_wp2
  go_ret
  exact ⟨by first | exact ret_int ht'.out.symm | (rw [ht'.out]), HK1.out.then Y8⟩

end Go.Proofs.Ytfhpdcimdeilpaa.st
