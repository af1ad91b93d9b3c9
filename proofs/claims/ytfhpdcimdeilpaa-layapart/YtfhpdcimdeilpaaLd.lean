/- The program's Bucket, TickOps, RecoverOps, MakeOps. -/
import Derived.Test.YtfhpdcimdeilpaaLc
import Derived.Test.YtfhpdcimdeilpaaDg
namespace Go.Proofs.Ytfhpdcimdeilpaa.st
open Go.ChangeShapes Go.WideShapes Go.ChangeAt Go.RowKit Go.Proofs.Ytfhpdcimdeilpaa.hp
set_option linter.unusedVariables false
set_option linter.unusedSimpArgs false

theorem bucketA_any (w : World) (K : Cf) (hK : okC K) (a : Option Addr) (n c : Nat) (b v : Int) : Calls Try.prog 38 #[cfgV K (.slice a n c), .int .i64 b, .int .i64 v] w fun e w' => e = .returned (.int .i64 (bucketA K b v)) ∧ Chg no w w' := by
  have hst := st_le hK
  obtain ⟨_, hb2⟩ := buckets_le hK
  have HN : Hid (∀ W, Calls Try.prog 60 #[.int .i64 (K.h : Int)] W fun e w' => e = .returned (.int .i64 ((bucketsN K : Nat) : Int)) ∧ w' = W) := fun W => buckets_any W K.h hK.h
  have HS : Hid (∀ W, _) := fun W => fst4_any W K hK a n c
  obtain ⟨N, hN⟩ : ∃ N, bucketsN K = N := ⟨_, rfl⟩
  obtain ⟨s4, h4⟩ : ∃ x, st4 K = x := ⟨_, rfl⟩
  obtain ⟨R, hR⟩ : ∃ R, bucketA K b v = R := ⟨_, rfl⟩
  simp only [hN, h4, hR] at HN HS hst hb2 ⊢
  unfold bucketA at hR
  rw [hN, h4] at hR
  have hs4 : (s4 : Int) ≤ 1294 := by omega
  have hNi : (N : Int) ≤ 127 := by omega
  by_cases hb : 0 ≤ b ∧ b < (N : Int)
  · have HW : Hid (∀ W, Calls Try.prog 52 #[.int .i64 0, .int .i64 b, .int .i64 ((N : Int) - 1)] W fun e w' => e = .returned (.bool true) ∧ w' = W) := fun W => within_t W (by omega)
    by_cases hv : 0 ≤ v ∧ v ≤ 1
    · have HV : Hid (∀ W, Calls Try.prog 52 #[.int .i64 0, .int .i64 v, .int .i64 1] W fun e w' => e = .returned (.bool true) ∧ w' = W) := fun W => within_t W hv
      rw [if_pos ⟨hb.1, hb.2, hv.1, hv.2⟩] at hR
      obtain ⟨hb, hbN⟩ := hb
      obtain ⟨hv, hv1⟩ := hv
      have hb127 : b ≤ 127 := by omega
      obtain ⟨h, z, b', r, rd, wr, s, p, q, t⟩ := K
      clear hK h4 hN hst hb2
      go_enter Try.func38, Try.ntmps38
      go_wp2_with fail
      obtain ⟨w1, hw1⟩ : ∃ w1, w.alloc (laO h z b' r rd wr s p q t (.slice a n c)) = w1 := ⟨_, rfl⟩
      have HB : Hid (w1.heap[w.heap.size]? = some (laO h z b' r rd wr s p q t (.slice a n c))) := by show _ = _; rw [← hw1]; exact heap_alloc_new w _
      have HK : Hid (Chg no w w1) := by rw [← hw1]; exact (Chg.refl no w).alloc _
      rw [hw1]
      obtain ⟨g, hg⟩ : ∃ g, w.heap.size = g := ⟨_, rfl⟩
      rw [hg] at HB ⊢
      clear hw1 hg
      refine (HN.out _).mono ?_
      rintro e w2 ⟨rfl, hw⟩
      subst hw
      go_wp2_with fail
      refine (HW.out _).mono ?_
      rintro e w3 ⟨rfl, hw⟩
      subst hw
      go_wp2_with fail
      refine (HV.out _).mono ?_
      rintro e w4 ⟨rfl, hw⟩
      subst hw
      obtain ⟨c0, c1, c2, c3, c4, c5, c6, c7, c8, c9, c10⟩ := la_cells HB.out
      go_wp2_with fail
      refine (HS.out _).mono ?_
      rintro e w5 ⟨rfl, k5⟩
      go_wp2
      go_ret
      exact ⟨by first | rfl | exact ret_int hR, HK.out.then k5⟩
    · have HV : Hid (∀ W, Calls Try.prog 52 #[.int .i64 0, .int .i64 v, .int .i64 1] W fun e w' => e = .returned (.bool false) ∧ w' = W) := fun W => within_f W hv
      rw [if_neg (by omega)] at hR
      subst hR
      obtain ⟨h, z, b', r, rd, wr, s, p, q, t⟩ := K
      clear hK h4 hN hst hb2 hb hv HS
      go_enter Try.func38, Try.ntmps38
      go_wp2_with fail
      refine (HN.out _).mono ?_
      rintro e w2 ⟨rfl, hw⟩
      subst hw
      go_wp2_with fail
      refine (HW.out _).mono ?_
      rintro e w3 ⟨rfl, hw⟩
      subst hw
      go_wp2_with fail
      refine (HV.out _).mono ?_
      rintro e w4 ⟨rfl, hw⟩
      subst hw
      go_wp2
      go_ret
      exact ⟨rfl, (Chg.refl no w).alloc _⟩
  · have HW : Hid (∀ W, Calls Try.prog 52 #[.int .i64 0, .int .i64 b, .int .i64 ((N : Int) - 1)] W fun e w' => e = .returned (.bool false) ∧ w' = W) := fun W => within_f W (by omega)
    rw [if_neg (by omega)] at hR
    subst hR
    obtain ⟨h, z, b', r, rd, wr, s, p, q, t⟩ := K
    clear hK h4 hN hst hb2 hb HS
    go_enter Try.func38, Try.ntmps38
    go_wp2_with fail
    refine (HN.out _).mono ?_
    rintro e w2 ⟨rfl, hw⟩
    subst hw
    go_wp2_with fail
    refine (HW.out _).mono ?_
    rintro e w3 ⟨rfl, hw⟩
    subst hw
    go_wp2
    go_ret
    exact ⟨rfl, (Chg.refl no w).alloc _⟩

theorem make_any (w : World) (K : Cf) (hK : okC K) (a : Option Addr) (n c : Nat) : Calls Try.prog 46 #[cfgV K (.slice a n c)] w fun e w' => e = .returned (.int .i64 ((5 + cFull K : Nat) : Int)) ∧ Chg no w w' := by
  have hsm := (small hK).full
  have HF : Hid (∀ W, _) := fun W => fullc_any W K hK a n c
  obtain ⟨L, hL⟩ : ∃ L, cFull K = L := ⟨_, rfl⟩
  simp only [hL] at hsm HF ⊢
  obtain ⟨T, hT⟩ : ∃ T, 5 + L = T := ⟨_, rfl⟩
  have he : Hid (2 + (L : Int) + 3 = (T : Int)) := by show _ = _; omega
  have hLi : (L : Int) ≤ 92 := by omega
  rw [hT]
  obtain ⟨h, z, b, r, rd, wr, s, p, q, t⟩ := K
  clear hK hL hsm hT
  go_enter Try.func46, Try.ntmps46
  go_wp2_with fail
  refine (HF.out _).mono ?_
  rintro e w2 ⟨rfl, k2⟩
  go_wp2
  go_ret
  exact ⟨ret_int (by have := he.out; omega), ((Chg.refl no w).alloc _).then k2⟩

theorem tick_no (w : World) (K : Cf) (a : Option Addr) (n c : Nat) (i : Int) (hi : i < 0) : Calls Try.prog 42 #[cfgV K (.slice a n c), .int .i64 i] w fun e w' => e = .returned (.int .i64 0) ∧ Chg no w w' := by
  obtain ⟨h, z, b, r, rd, wr, s, p, q, t⟩ := K
  go_enter Try.func42, Try.ntmps42
  go_wp2
  go_ret
  exact ⟨rfl, (Chg.refl no w).alloc _⟩

set_option maxRecDepth 100000 in
set_option maxHeartbeats 4000000 in
theorem tick_yes (w : World) (K : Cf) (hK : okC K) (a : Option Addr) (n c : Nat) (i : Nat) (hi : (i : Int) ≤ 4611686018427387904) : Calls Try.prog 42 #[cfgV K (.slice a n c), .int .i64 (i : Int)] w fun e w' => e = .returned (.int .i64 (tickA K (i : Int))) ∧ Chg no w w' := by
  have sm := small hK
  have hl := check_le hK (i : Int)
  have hh := hK.h
  have hr := hK.r
  obtain ⟨_, hS, _⟩ := slots_le hK
  have HSl : Hid (∀ W, _) := fun W => slots_any W K hK a n c
  have HLo : Hid (∀ W, _) := fun W => logops_any W K hK a n c
  have HPa : Hid (∀ W, _) := fun W => path_any W K hK a n c (slotsN K) (by omega)
  have HCh : Hid (∀ W, _) := fun W => checkA_any W K hK a n c (i : Int) hi
  have HCc : Hid (∀ W, _) := fun W => clogc_any W K hK a n c
  have f1 := sm.log
  have f2 := sm.clog
  have ht : tickA K (i : Int) = (K.r : Int) + 1 + ((slotsN K * cLog K : Nat) : Int) + 2 * ((slotsN K : Nat) : Int) * ((K.h : Int) + 1) + (checkA K (i : Int)).2 + ((cClog K : Nat) : Int) + 3 := by
    unfold tickA
    rw [if_pos (by omega), Int.natCast_mul]
  have hB : slotsN K * cLog K ≤ 40 := by rw [f1]; omega
  obtain ⟨R, hR⟩ : ∃ R, tickA K (i : Int) = R := ⟨_, rfl⟩
  obtain ⟨B, hBe⟩ : ∃ B, slotsN K * cLog K = B := ⟨_, rfl⟩
  obtain ⟨A, hA⟩ : ∃ A, slotsN K = A := ⟨_, rfl⟩
  obtain ⟨M, hM⟩ : ∃ M, cClog K = M := ⟨_, rfl⟩
  obtain ⟨u, hu⟩ : ∃ u, (checkA K (i : Int)).1 = u := ⟨_, rfl⟩
  obtain ⟨v, hv⟩ : ∃ v, (checkA K (i : Int)).2 = v := ⟨_, rfl⟩
  simp only [hR, hBe, areaV, hu, hv] at HLo HCh ht hl hB ⊢
  simp only [hA, hM] at HSl HPa HCc f2 ht hS
  have hp : 2 * (A : Int) * ((K.h : Int) + 1) ≤ 560 ∧ 0 ≤ 2 * (A : Int) * ((K.h : Int) + 1) := by
    have e : 2 * (A : Int) * ((K.h : Int) + 1) = ((2 * A * (K.h + 1) : Nat) : Int) := by rw [Int.natCast_mul, Int.natCast_mul]; rfl
    have : 2 * A * (K.h + 1) ≤ 80 * 7 := Nat.mul_le_mul (by omega) (by omega)
    rw [e]
    omega
  obtain ⟨hp, hp'⟩ := hp
  obtain ⟨Y, hY⟩ : ∃ Y, 2 * (A : Int) * ((K.h : Int) + 1) = Y := ⟨_, rfl⟩
  simp only [hY] at HPa ht hp hp'
  obtain ⟨hl, hl'⟩ := hl
  have hri : (K.r : Int) ≤ 4 := by omega
  have hBi : (B : Int) ≤ 40 := by omega
  have hMi : (M : Int) ≤ 9 := by omega
  have hi0 : ¬ (i : Int) < 0 := by omega
  have ht' : Hid (R = (K.r : Int) + 1 + (B : Int) + Y + v + (M : Int) + 3) := ht
  obtain ⟨h, z, b, r, rd, wr, s, p, q, t⟩ := K
  try simp only at *
  clear hK sm hh hr hS f1 f2 hR hA hBe hM hu hv ht hi hB hY
  have hf : ∀ w, (Instr.field 39 (.agg #[.int .i64 u, .int .i64 v]) 1).run Try.prog w = .ok (.int .i64 v) w := fun _ => by kernel_rfl
  go_enter Try.func42, Try.ntmps42
  go_wp2_with fail
  obtain ⟨w1, hw1⟩ : ∃ w1, w.alloc (laO h z b r rd wr s p q t (.slice a n c)) = w1 := ⟨_, rfl⟩
  have HB : Hid (w1.heap[w.heap.size]? = some (laO h z b r rd wr s p q t (.slice a n c))) := by show _ = _; rw [← hw1]; exact heap_alloc_new w _
  have HK : Hid (Chg no w w1) := by rw [← hw1]; exact (Chg.refl no w).alloc _
  rw [hw1]
  obtain ⟨g, hg⟩ : ∃ g, w.heap.size = g := ⟨_, rfl⟩
  rw [hg] at HB ⊢
  clear hw1 hg
  obtain ⟨pK, hpK⟩ : ∃ pK : World → Prop, ∀ w', pK w' ↔ Chg no w1 w' := ⟨_, fun _ => Iff.rfl⟩
  obtain ⟨x0, x1, x2, x3, x4, x5, x6, x7, x8, x9, x10, iK⟩ := la_facts hpK HB.out
  have HpK : Hid (∀ w', pK w' ↔ Chg no w1 w') := hpK
  have Y0 : Chg no w1 w1.drew := (Chg.refl no w1).drew
  clear hpK
  refine far.region_farM (fun κ w' => pK w') [2, 6, 7, 11, 15] (by kernel_rfl) (by kernel_rfl) ((HpK.out _).2 Y0) ?_
  intro LP e1' e2' e3'
  refine far.farO_stretch pK 2 0 5 e1' e2' e3' (by kernel_rfl) (by kernel_rfl) (fun κ w' hk1 hk2 hC => hC) ?_
  simp only [List.take_succ_cons, List.take_zero, List.drop_succ_cons, List.drop_zero, Nat.reduceAdd]
  repeat (go_big_quiet_step (fail))
  refine wpQuiet_nil ?_
  refine far.farO_enter e1' e2' 0 rfl rfl 76 #[cfgV ⟨h, z, b, r, rd, wr, s, p, q, t⟩ (.slice a n c)] (by kernel_rfl) (by kernel_rfl) ?_
  refine (HLo.out _).mono ?_
  rintro e w2 ⟨rfl, k1⟩
  have Y1 := Y0.then k1
  refine ⟨_, rfl, (HpK.out _).2 Y1, ?_⟩
  simp only [Act.put, List.setIfInBounds_toArray, List.set_cons_succ, List.set_cons_zero, Nat.reduceAdd]
  refine far.farO_stretch pK 3 0 5 e1' e2' e3' (by kernel_rfl) (by kernel_rfl) (fun κ w' hk1 hk2 hC => hC) ?_
  simp only [List.take_succ_cons, List.take_zero, List.drop_succ_cons, List.drop_zero, Nat.reduceAdd]
  repeat (go_big_quiet_step (fail))
  refine wpQuiet_nil ?_
  refine far.farO_enter e1' e2' 1 rfl rfl 16 #[cfgV ⟨h, z, b, r, rd, wr, s, p, q, t⟩ (.slice a n c)] (by kernel_rfl) (by kernel_rfl) ?_
  refine (HSl.out _).mono ?_
  rintro e w3 ⟨rfl, k2⟩
  have Y2 := Y1.then k2
  refine ⟨_, rfl, (HpK.out _).2 Y2, ?_⟩
  simp only [Act.put, List.setIfInBounds_toArray, List.set_cons_succ, List.set_cons_zero, Nat.reduceAdd]
  refine far.farO_enter e1' e2' 2 rfl rfl 77 #[cfgV ⟨h, z, b, r, rd, wr, s, p, q, t⟩ (.slice a n c), .int .i64 (A : Int)] (by kernel_rfl) (by kernel_rfl) ?_
  refine (HPa.out _).mono ?_
  rintro e w4 ⟨rfl, k3⟩
  have Y3 := Y2.then k3
  refine ⟨_, rfl, (HpK.out _).2 Y3, ?_⟩
  simp only [Act.put, List.setIfInBounds_toArray, List.set_cons_succ, List.set_cons_zero, Nat.reduceAdd]
  refine far.farO_stretch pK 3 0 5 e1' e2' e3' (by kernel_rfl) (by kernel_rfl) (fun κ w' hk1 hk2 hC => hC) ?_
  simp only [List.take_succ_cons, List.take_zero, List.drop_succ_cons, List.drop_zero, Nat.reduceAdd]
  repeat (go_big_quiet_step (fail))
  refine wpQuiet_nil ?_
  refine far.farO_enter e1' e2' 3 rfl rfl 36 #[cfgV ⟨h, z, b, r, rd, wr, s, p, q, t⟩ (.slice a n c), .int .i64 (i : Int)] (by kernel_rfl) (by kernel_rfl) ?_
  refine (HCh.out _).mono ?_
  rintro e w5 ⟨rfl, k4⟩
  have Y4 := Y3.then k4
  refine ⟨_, rfl, (HpK.out _).2 Y4, ?_⟩
  simp only [Act.put, List.setIfInBounds_toArray, List.set_cons_succ, List.set_cons_zero, Nat.reduceAdd]
  refine far.farO_stretch pK 3 0 5 e1' e2' e3' (by kernel_rfl) (by kernel_rfl) (fun κ w' hk1 hk2 hC => hC) ?_
  simp only [List.take_succ_cons, List.take_zero, List.drop_succ_cons, List.drop_zero, Nat.reduceAdd]
  repeat (go_big_quiet_step (fail))
  refine wpQuiet_nil ?_
  refine far.farO_enter e1' e2' 4 rfl rfl 68 #[cfgV ⟨h, z, b, r, rd, wr, s, p, q, t⟩ (.slice a n c)] (by kernel_rfl) (by kernel_rfl) ?_
  refine (HCc.out _).mono ?_
  rintro e w6 ⟨rfl, k5⟩
  have Y5 := Y4.then k5
  refine ⟨_, rfl, (HpK.out _).2 Y5, ?_⟩
  simp only [Act.put, List.setIfInBounds_toArray, List.set_cons_succ, List.set_cons_zero, Nat.reduceAdd]
  refine far.farO_stretch pK 3 0 5 e1' e2' e3' (by kernel_rfl) (by kernel_rfl) (fun κ w' hk1 hk2 hC => hC) ?_
  simp only [List.take_succ_cons, List.take_zero, List.drop_succ_cons, List.drop_zero, Nat.reduceAdd]
  repeat (go_big_quiet_step (fail))
  refine wpQuiet_nil ?_
  refine far.farO_nil ?_
  go_wp2
  go_ret
  exact ⟨ret_int (by have := ht'.out; omega), HK.out.then Y5⟩

theorem tickA_any (w : World) (K : Cf) (hK : okC K) (a : Option Addr) (n c : Nat) (i : Int) (hi : i ≤ 4611686018427387904) : Calls Try.prog 42 #[cfgV K (.slice a n c), .int .i64 i] w fun e w' => e = .returned (.int .i64 (tickA K i)) ∧ Chg no w w' := by
  by_cases h : 0 ≤ i
  · obtain ⟨k, rfl⟩ : ∃ k : Nat, i = k := ⟨i.toNat, by omega⟩
    exact tick_yes w K hK a n c k hi
  · have e : tickA K i = 0 := by
      unfold tickA
      rw [if_neg h]
    rw [e]
    exact tick_no w K a n c i (by omega)

theorem chk2 (K : Cf) (q : Nat) : (checkA K (q : Int)).2 = if q % K.p = 0 then (cFull K : Int) else (cDelta K : Int) := by
  unfold checkA
  rw [Int.toNat_natCast]
  by_cases h : q % K.p = 0
  · rw [if_pos ⟨by omega, h⟩, if_pos h]
    unfold fullA
    rw [if_pos (by omega)]
  · rw [if_neg (fun hh => h hh.2), if_neg h]
    unfold deltaA
    rw [Int.toNat_natCast, if_pos ⟨by omega, h⟩]

theorem chk_step {K : Cf} (i : Nat) : (checkA K (((i % K.p : Nat) : Int) + 1)).2 = (checkA K ((i : Int) + 1)).2 := by
  have e1 : ((i % K.p : Nat) : Int) + 1 = ((i % K.p + 1 : Nat) : Int) := by omega
  have e2 : (i : Int) + 1 = ((i + 1 : Nat) : Int) := by omega
  rw [e1, e2, chk2, chk2, Nat.mod_add_mod]

theorem dl1 {K : Cf} (hK : okC K) (i : Nat) : ((i % K.p : Nat) : Int) * (deltaA K 1).2 = ((i % K.p : Nat) : Int) * ((cDelta K : Nat) : Int) := by
  have hp := hK.p
  by_cases h : K.p = 1
  · rw [h, Nat.mod_one]
    simp
  · unfold deltaA
    rw [if_pos ⟨by omega, by rw [show (1 : Int).toNat = 1 from rfl, Nat.mod_eq_of_lt (by omega)]; omega⟩]

theorem rec_no (w : World) (K : Cf) (hK : okC K) (a : Option Addr) (n c : Nat) (i j : Int) (hib : i ≤ 4611686018427387904) (hi : i < 0 ∨ j < 0) : Calls Try.prog 44 #[cfgV K (.slice a n c), .int .i64 i, .int .i64 j] w fun e w' => e = .returned (.int .i64 0) ∧ Chg no w w' := by
  by_cases h0 : i < 0
  · have HT : Hid (∀ W, _) := fun W => turn_no W K a n c i h0
    obtain ⟨h, z, b, r, rd, wr, s, p, q, t⟩ := K
    clear hi hK
    go_enter Try.func44, Try.ntmps44
    go_wp2_with fail
    refine (HT.out _).mono ?_
    rintro e w2 ⟨rfl, k2⟩
    go_wp2
    go_ret
    exact ⟨rfl, ((Chg.refl no w).alloc _).then k2⟩
  · have h1 : j < 0 := by omega
    obtain ⟨k, rfl⟩ : ∃ k : Nat, i = k := ⟨i.toNat, by omega⟩
    have HT : Hid (∀ W, _) := fun W => turn_any W K hK a n c k hib
    obtain ⟨m, hm⟩ : ∃ m, k / K.p % 2 = m := ⟨_, rfl⟩
    obtain ⟨m0, hm0⟩ : ∃ m, k % K.p = m := ⟨_, rfl⟩
    simp only [hm, hm0] at HT
    obtain ⟨h, z, b, r, rd, wr, s, p, q, t⟩ := K
    clear hi hK h0 hm hm0 hib
    go_enter Try.func44, Try.ntmps44
    go_wp2_with fail
    refine (HT.out _).mono ?_
    rintro e w2 ⟨rfl, k2⟩
    go_wp2
    go_ret
    exact ⟨rfl, ((Chg.refl no w).alloc _).then k2⟩

set_option maxRecDepth 100000 in
set_option maxHeartbeats 4000000 in
theorem rec_yes (w : World) (K : Cf) (hK : okC K) (a : Option Addr) (n c : Nat) (i j : Nat) (hi : (i : Int) ≤ 4611686018427387903) (hj : (j : Int) ≤ 2097152) : Calls Try.prog 44 #[cfgV K (.slice a n c), .int .i64 (i : Int), .int .i64 (j : Int)] w fun e w' => e = .returned (.int .i64 (recA K (i : Int) (j : Int))) ∧ Chg no w w' := by
  have sm := small hK
  have hp8 := hK.p
  have hmod := Nat.mod_lt i (show K.p > 0 by omega)
  have hl := check_le hK (((i % K.p : Nat) : Int) + 1)
  have hh := hK.h
  obtain ⟨_, hS, _⟩ := slots_le hK
  have HT : Hid (∀ W, _) := fun W => turn_any W K hK a n c i (by omega)
  have HLo : Hid (∀ W, _) := fun W => logops_any W K hK a n c
  have HPa : Hid (∀ W, _) := fun W => path_any W K hK a n c j (by omega)
  have HCh : Hid (∀ W, _) := fun W => checkA_any W K hK a n c (((i % K.p : Nat) : Int) + 1) (by omega)
  have HCc : Hid (∀ W, _) := fun W => clogc_any W K hK a n c
  have HFc : Hid (∀ W, _) := fun W => fullc_any W K hK a n c
  have HDc : Hid (∀ W, _) := fun W => deltac_any W K hK a n c
  have f1 := sm.log
  have f2 := sm.clog
  have f3 := sm.full
  have f4 := sm.delta
  have ht : recA K (i : Int) (j : Int) = 4 + ((cFull K : Nat) : Int) + ((i % K.p : Nat) : Int) * ((cDelta K : Nat) : Int) + ((slotsN K * cLog K : Nat) : Int) + ((cClog K : Nat) : Int) + 2 * (j : Int) * ((K.h : Int) + 1) + (checkA K (((i % K.p : Nat) : Int) + 1)).2 + 3 := by
    unfold recA
    rw [if_pos ⟨by omega, by omega⟩, Int.toNat_natCast, chk_step, dl1 hK, Int.natCast_mul]
  have hB : slotsN K * cLog K ≤ 40 := by rw [f1]; omega
  obtain ⟨R, hR⟩ : ∃ R, recA K (i : Int) (j : Int) = R := ⟨_, rfl⟩
  obtain ⟨B, hBe⟩ : ∃ B, slotsN K * cLog K = B := ⟨_, rfl⟩
  obtain ⟨M, hM⟩ : ∃ M, cClog K = M := ⟨_, rfl⟩
  obtain ⟨F, hF⟩ : ∃ M, cFull K = M := ⟨_, rfl⟩
  obtain ⟨D, hD⟩ : ∃ M, cDelta K = M := ⟨_, rfl⟩
  obtain ⟨x, hx⟩ : ∃ m, i / K.p % 2 = m := ⟨_, rfl⟩
  obtain ⟨m, hm⟩ : ∃ m, i % K.p = m := ⟨_, rfl⟩
  simp only [hm, hx] at HT HCh ht hl hmod
  obtain ⟨u, hu⟩ : ∃ u, (checkA K ((m : Int) + 1)).1 = u := ⟨_, rfl⟩
  obtain ⟨v, hv⟩ : ∃ v, (checkA K ((m : Int) + 1)).2 = v := ⟨_, rfl⟩
  simp only [hR, hBe, areaV, hu, hv, hM, hF, hD] at HLo HCh HCc HFc HDc ht hl hB f2 f3 f4 ⊢
  have hp2 : 2 * (j : Int) * ((K.h : Int) + 1) ≤ 29360128 ∧ 0 ≤ 2 * (j : Int) * ((K.h : Int) + 1) := by
    have e : 2 * (j : Int) * ((K.h : Int) + 1) = ((2 * j * (K.h + 1) : Nat) : Int) := by rw [Int.natCast_mul, Int.natCast_mul]; rfl
    have : 2 * j * (K.h + 1) ≤ 4194304 * 7 := Nat.mul_le_mul (by omega) (by omega)
    rw [e]
    omega
  have hmd : (m : Int) * (D : Int) ≤ 525 ∧ 0 ≤ (m : Int) * (D : Int) := by
    have e : (m : Int) * (D : Int) = ((m * D : Nat) : Int) := by rw [Int.natCast_mul]
    have : m * D ≤ 7 * 75 := Nat.mul_le_mul (by omega) (by omega)
    rw [e]
    omega
  obtain ⟨hp2, hp2'⟩ := hp2
  obtain ⟨hmd, hmd'⟩ := hmd
  obtain ⟨Y, hY⟩ : ∃ Y, 2 * (j : Int) * ((K.h : Int) + 1) = Y := ⟨_, rfl⟩
  simp only [hY] at HPa ht hp2 hp2'
  obtain ⟨hl, hl'⟩ := hl
  have hFi : (F : Int) ≤ 92 := by omega
  have hBi : (B : Int) ≤ 40 := by omega
  have hMi : (M : Int) ≤ 9 := by omega
  have hmi : (m : Int) ≤ 8 := by omega
  have hDi : (D : Int) ≤ 75 := by omega
  have hj0 : ¬ (j : Int) < 0 := by omega
  have ht' : Hid (R = 4 + (F : Int) + (m : Int) * (D : Int) + (B : Int) + (M : Int) + Y + v + 3) := ht
  obtain ⟨h, z, b, r, rd, wr, s, p, q, t⟩ := K
  try simp only at *
  clear hK sm hh hS f1 f2 f3 f4 hR hBe hM hF hD hx hm hu hv ht hi hB hY hj hp8 hmod
  have hf : ∀ w, (Instr.field 39 (.agg #[.int .i64 u, .int .i64 v]) 1).run Try.prog w = .ok (.int .i64 v) w := fun _ => by kernel_rfl
  go_enter Try.func44, Try.ntmps44
  go_wp2_with fail
  obtain ⟨w1, hw1⟩ : ∃ w1, w.alloc (laO h z b r rd wr s p q t (.slice a n c)) = w1 := ⟨_, rfl⟩
  have HB : Hid (w1.heap[w.heap.size]? = some (laO h z b r rd wr s p q t (.slice a n c))) := by show _ = _; rw [← hw1]; exact heap_alloc_new w _
  have HK : Hid (Chg no w w1) := by rw [← hw1]; exact (Chg.refl no w).alloc _
  rw [hw1]
  obtain ⟨g, hg⟩ : ∃ g, w.heap.size = g := ⟨_, rfl⟩
  rw [hg] at HB ⊢
  clear hw1 hg
  refine (HT.out _).mono ?_
  rintro e w2 ⟨rfl, k2⟩
  have HB2 : Hid (w2.heap[g]? = some (laO h z b r rd wr s p q t (.slice a n c))) := (k2).heap HB.out id
  have HK2 : Hid (Chg no w w2) := HK.out.then (k2)
  clear HB HK
  have HB : Hid (w2.heap[g]? = some (laO h z b r rd wr s p q t (.slice a n c))) := HB2.out
  have HK : Hid (Chg no w w2) := HK2.out
  clear HB2 HK2
  clear k2
  go_wp2_with fail
  obtain ⟨pK, hpK⟩ : ∃ pK : World → Prop, ∀ w', pK w' ↔ Chg no w2 w' := ⟨_, fun _ => Iff.rfl⟩
  obtain ⟨x0, x1, x2, x3, x4, x5, x6, x7, x8, x9, x10, iK⟩ := la_facts hpK HB.out
  have HpK : Hid (∀ w', pK w' ↔ Chg no w2 w') := hpK
  have Y0 : Chg no w2 w2.drew := (Chg.refl no w2).drew
  clear hpK
  refine far.region_farM (fun κ w' => pK w') [1, 4, 8, 11] (by kernel_rfl) (by kernel_rfl) ((HpK.out _).2 Y0) ?_
  intro LP e1' e2' e3'
  refine far.farO_stretch pK 1 0 4 e1' e2' e3' (by kernel_rfl) (by kernel_rfl) (fun κ w' hk1 hk2 hC => hC) ?_
  simp only [List.take_succ_cons, List.take_zero, List.drop_succ_cons, List.drop_zero, Nat.reduceAdd]
  repeat (go_big_quiet_step (fail))
  refine wpQuiet_nil ?_
  refine far.farO_enter e1' e2' 0 rfl rfl 73 #[cfgV ⟨h, z, b, r, rd, wr, s, p, q, t⟩ (.slice a n c)] (by kernel_rfl) (by kernel_rfl) ?_
  refine (HFc.out _).mono ?_
  rintro e w3 ⟨rfl, k1⟩
  have Y1 := Y0.then k1
  refine ⟨_, rfl, (HpK.out _).2 Y1, ?_⟩
  simp only [Act.put, List.setIfInBounds_toArray, List.set_cons_succ, List.set_cons_zero, Nat.reduceAdd]
  refine far.farO_stretch pK 2 0 4 e1' e2' e3' (by kernel_rfl) (by kernel_rfl) (fun κ w' hk1 hk2 hC => hC) ?_
  simp only [List.take_succ_cons, List.take_zero, List.drop_succ_cons, List.drop_zero, Nat.reduceAdd]
  repeat (go_big_quiet_step (fail))
  refine wpQuiet_nil ?_
  refine far.farO_enter e1' e2' 1 rfl rfl 71 #[cfgV ⟨h, z, b, r, rd, wr, s, p, q, t⟩ (.slice a n c)] (by kernel_rfl) (by kernel_rfl) ?_
  refine (HDc.out _).mono ?_
  rintro e w4 ⟨rfl, k2⟩
  have Y2 := Y1.then k2
  refine ⟨_, rfl, (HpK.out _).2 Y2, ?_⟩
  simp only [Act.put, List.setIfInBounds_toArray, List.set_cons_succ, List.set_cons_zero, Nat.reduceAdd]
  refine far.farO_stretch pK 3 0 4 e1' e2' e3' (by kernel_rfl) (by kernel_rfl) (fun κ w' hk1 hk2 hC => hC) ?_
  simp only [List.take_succ_cons, List.take_zero, List.drop_succ_cons, List.drop_zero, Nat.reduceAdd]
  repeat (go_big_quiet_step (fail))
  refine wpQuiet_nil ?_
  refine far.farO_enter e1' e2' 2 rfl rfl 76 #[cfgV ⟨h, z, b, r, rd, wr, s, p, q, t⟩ (.slice a n c)] (by kernel_rfl) (by kernel_rfl) ?_
  refine (HLo.out _).mono ?_
  rintro e w5 ⟨rfl, k3⟩
  have Y3 := Y2.then k3
  refine ⟨_, rfl, (HpK.out _).2 Y3, ?_⟩
  simp only [Act.put, List.setIfInBounds_toArray, List.set_cons_succ, List.set_cons_zero, Nat.reduceAdd]
  refine far.farO_stretch pK 2 0 4 e1' e2' e3' (by kernel_rfl) (by kernel_rfl) (fun κ w' hk1 hk2 hC => hC) ?_
  simp only [List.take_succ_cons, List.take_zero, List.drop_succ_cons, List.drop_zero, Nat.reduceAdd]
  repeat (go_big_quiet_step (fail))
  refine wpQuiet_nil ?_
  refine far.farO_enter e1' e2' 3 rfl rfl 68 #[cfgV ⟨h, z, b, r, rd, wr, s, p, q, t⟩ (.slice a n c)] (by kernel_rfl) (by kernel_rfl) ?_
  refine (HCc.out _).mono ?_
  rintro e w6 ⟨rfl, k4⟩
  have Y4 := Y3.then k4
  refine ⟨_, rfl, (HpK.out _).2 Y4, ?_⟩
  simp only [Act.put, List.setIfInBounds_toArray, List.set_cons_succ, List.set_cons_zero, Nat.reduceAdd]
  refine far.farO_stretch pK 2 0 4 e1' e2' e3' (by kernel_rfl) (by kernel_rfl) (fun κ w' hk1 hk2 hC => hC) ?_
  simp only [List.take_succ_cons, List.take_zero, List.drop_succ_cons, List.drop_zero, Nat.reduceAdd]
  repeat (go_big_quiet_step (fail))
  refine wpQuiet_nil ?_
  refine far.farO_nil ?_
  have HB2 : Hid (w6.heap[g]? = some (laO h z b r rd wr s p q t (.slice a n c))) := (Y4).heap HB.out id
  have HK2 : Hid (Chg no w w6) := HK.out.then (Y4)
  clear HB HK
  have HB : Hid (w6.heap[g]? = some (laO h z b r rd wr s p q t (.slice a n c))) := HB2.out
  have HK : Hid (Chg no w w6) := HK2.out
  clear HB2 HK2
  clear HpK Y0 Y1 Y2 Y3 Y4 k1 k2 k3 k4 x0 x1 x2 x3 x4 x5 x6 x7 x8 x9 x10 iK
  clear e1' e2' e3' LP pK
  obtain ⟨c0, c1, c2, c3, c4, c5, c6, c7, c8, c9, c10⟩ := la_cells HB.out
  go_wp2_with fail
  refine (HCh.out _).mono ?_
  rintro e w7 ⟨rfl, k7⟩
  clear c0 c1 c2 c3 c4 c5 c6 c7 c8 c9 c10
  have HB2 : Hid (w7.heap[g]? = some (laO h z b r rd wr s p q t (.slice a n c))) := (k7).heap HB.out id
  have HK2 : Hid (Chg no w w7) := HK.out.then (k7)
  clear HB HK
  have HB : Hid (w7.heap[g]? = some (laO h z b r rd wr s p q t (.slice a n c))) := HB2.out
  have HK : Hid (Chg no w w7) := HK2.out
  clear HB2 HK2
  clear k7
  obtain ⟨c0, c1, c2, c3, c4, c5, c6, c7, c8, c9, c10⟩ := la_cells HB.out
  go_wp2_with fail
  refine (HPa.out _).mono ?_
  rintro e w8 ⟨rfl, k8⟩
  go_wp2
  go_ret
  exact ⟨ret_int (by have := ht'.out; omega), HK.out.then k8⟩

theorem recA_any (w : World) (K : Cf) (hK : okC K) (a : Option Addr) (n c : Nat) (i j : Int) (hi : i ≤ 4611686018427387903) (hj : j ≤ 2097152) : Calls Try.prog 44 #[cfgV K (.slice a n c), .int .i64 i, .int .i64 j] w fun e w' => e = .returned (.int .i64 (recA K i j)) ∧ Chg no w w' := by
  by_cases h : 0 ≤ i ∧ 0 ≤ j
  · obtain ⟨k, rfl⟩ : ∃ k : Nat, i = k := ⟨i.toNat, by omega⟩
    obtain ⟨l, rfl⟩ : ∃ l : Nat, j = l := ⟨j.toNat, by omega⟩
    exact rec_yes w K hK a n c k l hi hj
  · have e : recA K i j = 0 := by
      unfold recA
      rw [if_neg h]
    rw [e]
    exact rec_no w K hK a n c i j (by omega) (by omega)

end Go.Proofs.Ytfhpdcimdeilpaa.st
