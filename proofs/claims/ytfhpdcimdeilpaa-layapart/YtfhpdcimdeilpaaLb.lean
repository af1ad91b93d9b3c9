/- The program's cells, beginnings; which turn; how much is done, in parts. -/
import Derived.Test.YtfhpdcimdeilpaaLa
namespace Go.Proofs.Ytfhpdcimdeilpaa.st
open Go.ChangeShapes Go.WideShapes Go.ChangeAt Go.RowKit Go.Proofs.Ytfhpdcimdeilpaa.hp
set_option linter.unusedVariables false
set_option linter.unusedSimpArgs false

theorem cells_any (w : World) (K : Cf) (hK : okC K) (a : Option Addr) (n c : Nat) (len : Nat) (h1 : 1 ≤ len) (h3 : len ≤ 1000000) : Calls Try.prog 81 #[cfgV K (.slice a n c), .int .i64 len] w fun e w' => e = .returned (.int .i64 ((clN len (payN K) : Nat) : Int)) ∧ Chg no w w' := by
  have H1 : Hid (∀ W, _) := fun W => pay_any W K hK a n c
  have hp := pay_le hK
  have H2 : Hid (∀ W, _) := fun W => cells2_any W len (payN K) h1 (by omega) h3 (by omega)
  obtain ⟨P, hP⟩ : ∃ P, payN K = P := ⟨_, rfl⟩
  simp only [hP] at H1 H2 ⊢
  obtain ⟨R, hR⟩ : ∃ R, clN len P = R := ⟨_, rfl⟩
  simp only [hR] at H2 ⊢
  obtain ⟨h, z, b, r, rd, wr, s, p, q, t⟩ := K
  try simp only at *
  clear hK hP hR hp
  go_enter Try.func81, Try.ntmps81
  go_wp2_with fail
  refine (H1.out _).mono ?_
  rintro e w2 ⟨rfl, k2⟩
  go_wp2_with fail
  refine (H2.out _).mono ?_
  rintro e w3 ⟨rfl, hw⟩
  subst hw
  go_wp2
  go_ret
  exact ⟨rfl, ((Chg.refl no w).alloc _).then k2⟩

theorem slen_le {K : Cf} (hK : okC K) : stashN K ≤ 2433 ∧ deltaN K ≤ 100000 ∧ fullN K ≤ 100000 ∧ clogN K ≤ 100000 ∧ 1 ≤ deltaN K ∧ 1 ≤ fullN K ∧ 1 ≤ clogN K := by
  have hs := hK.s
  have hw := hK.wr
  have hb := hK.b
  have ht := hK.t
  obtain ⟨_, hS, _⟩ := slots_le hK
  obtain ⟨hk1, hk2⟩ := buckets_le hK
  have e1 : stashN K ≤ 2433 := by unfold stashN; omega
  unfold deltaN fullN clogN
  omega

theorem logc_any (w : World) (K : Cf) (hK : okC K) (a : Option Addr) (n c : Nat) : Calls Try.prog 64 #[cfgV K (.slice a n c)] w fun e w' => e = .returned (.int .i64 ((cLog K : Nat) : Int)) ∧ Chg no w w' := by
  have HL : Hid (∀ W, _) := fun W => logl_any W K a n c
  have HC : Hid (∀ W, Calls Try.prog 81 #[cfgV K (.slice a n c), .int .i64 12] W fun e w' => e = .returned (.int .i64 ((cLog K : Nat) : Int)) ∧ Chg no W w') := fun W => cells_any W K hK a n c 12 (by omega) (by omega)
  obtain ⟨R, hR⟩ : ∃ x, cLog K = x := ⟨_, rfl⟩
  simp only [hR] at HC ⊢
  obtain ⟨h, z, b, r, rd, wr, s, p, q, t⟩ := K
  try simp only at *
  clear hK hR
  go_enter Try.func64, Try.ntmps64
  go_wp2_with fail
  obtain ⟨w1, hw1⟩ : ∃ w1, w.alloc (laO h z b r rd wr s p q t (.slice a n c)) = w1 := ⟨_, rfl⟩
  have HB : Hid (w1.heap[w.heap.size]? = some (laO h z b r rd wr s p q t (.slice a n c))) := by show _ = _; rw [← hw1]; exact heap_alloc_new w _
  have HK : Hid (Chg no w w1) := by rw [← hw1]; exact (Chg.refl no w).alloc _
  rw [hw1]
  obtain ⟨g, hg⟩ : ∃ g, w.heap.size = g := ⟨_, rfl⟩
  rw [hg] at HB ⊢
  clear hw1 hg
  obtain ⟨pK, hpK⟩ : ∃ pK : World → Prop, ∀ w', pK w' ↔ Chg no w1 w' := ⟨_, fun _ => Iff.rfl⟩
  obtain ⟨x0, x1, x2, x3, x4, x5, x6, x7, x8, x9, x10, iK⟩ := la_facts hpK HB.out
  have HpK : Hid (∀ w', pK w' ↔ Chg no w1 w') := hpK
  have Y0 : Chg no w1 w1.drew := (Chg.refl no w1).drew
  clear hpK
  refine far.region_farM (fun κ w' => pK w') [2, 3] (by kernel_rfl) (by kernel_rfl) ((HpK.out _).2 Y0) ?_
  intro LP e1' e2' e3'
  refine far.farO_stretch pK 2 0 2 e1' e2' e3' (by kernel_rfl) (by kernel_rfl) (fun κ w' hk1 hk2 hC => hC) ?_
  simp only [List.take_succ_cons, List.take_zero, List.drop_succ_cons, List.drop_zero, Nat.reduceAdd]
  repeat (go_big_quiet_step (fail))
  refine wpQuiet_nil ?_
  refine far.farO_enter e1' e2' 0 rfl rfl 20 #[cfgV ⟨h, z, b, r, rd, wr, s, p, q, t⟩ (.slice a n c)] (by kernel_rfl) (by kernel_rfl) ?_
  refine (HL.out _).mono ?_
  rintro e w2 ⟨rfl, k1⟩
  have Y1 := Y0.then k1
  refine ⟨_, rfl, (HpK.out _).2 Y1, ?_⟩
  simp only [Act.put, List.setIfInBounds_toArray, List.set_cons_succ, List.set_cons_zero, Nat.reduceAdd]
  refine far.farO_enter e1' e2' 1 rfl rfl 81 #[cfgV ⟨h, z, b, r, rd, wr, s, p, q, t⟩ (.slice a n c), .int .i64 12] (by kernel_rfl) (by kernel_rfl) ?_
  refine (HC.out _).mono ?_
  rintro e w3 ⟨rfl, k2⟩
  have Y2 := Y1.then k2
  refine ⟨_, rfl, (HpK.out _).2 Y2, ?_⟩
  simp only [Act.put, List.setIfInBounds_toArray, List.set_cons_succ, List.set_cons_zero, Nat.reduceAdd]
  refine far.farO_stretch pK 1 0 2 e1' e2' e3' (by kernel_rfl) (by kernel_rfl) (fun κ w' hk1 hk2 hC => hC) ?_
  simp only [List.take_succ_cons, List.take_zero, List.drop_succ_cons, List.drop_zero, Nat.reduceAdd]
  repeat (go_big_quiet_step (fail))
  refine wpQuiet_nil ?_
  refine far.farO_nil ?_
  go_wp2
  go_ret
  exact ⟨rfl, HK.out.then Y2⟩

theorem clogc_any (w : World) (K : Cf) (hK : okC K) (a : Option Addr) (n c : Nat) : Calls Try.prog 68 #[cfgV K (.slice a n c)] w fun e w' => e = .returned (.int .i64 ((cClog K : Nat) : Int)) ∧ Chg no w w' := by
  obtain ⟨l0, l1, l2, l3, l4, l5, l6⟩ := slen_le hK
  have HL : Hid (∀ W, _) := fun W => clogl_any W K hK a n c
  have HC : Hid (∀ W, Calls Try.prog 81 #[cfgV K (.slice a n c), .int .i64 ((clogN K : Nat) : Int)] W fun e w' => e = .returned (.int .i64 ((cClog K : Nat) : Int)) ∧ Chg no W w') := fun W => cells_any W K hK a n c (clogN K) (by omega) (by omega)
  obtain ⟨R, hR⟩ : ∃ x, cClog K = x := ⟨_, rfl⟩
  simp only [hR] at HC ⊢
  obtain ⟨ln, hln⟩ : ∃ x, clogN K = x := ⟨_, rfl⟩
  simp only [hln] at HL HC
  obtain ⟨h, z, b, r, rd, wr, s, p, q, t⟩ := K
  try simp only at *
  clear hK hR hln l0 l1 l2 l3 l4 l5 l6
  go_enter Try.func68, Try.ntmps68
  go_wp2_with fail
  obtain ⟨w1, hw1⟩ : ∃ w1, w.alloc (laO h z b r rd wr s p q t (.slice a n c)) = w1 := ⟨_, rfl⟩
  have HB : Hid (w1.heap[w.heap.size]? = some (laO h z b r rd wr s p q t (.slice a n c))) := by show _ = _; rw [← hw1]; exact heap_alloc_new w _
  have HK : Hid (Chg no w w1) := by rw [← hw1]; exact (Chg.refl no w).alloc _
  rw [hw1]
  obtain ⟨g, hg⟩ : ∃ g, w.heap.size = g := ⟨_, rfl⟩
  rw [hg] at HB ⊢
  clear hw1 hg
  obtain ⟨pK, hpK⟩ : ∃ pK : World → Prop, ∀ w', pK w' ↔ Chg no w1 w' := ⟨_, fun _ => Iff.rfl⟩
  obtain ⟨x0, x1, x2, x3, x4, x5, x6, x7, x8, x9, x10, iK⟩ := la_facts hpK HB.out
  have HpK : Hid (∀ w', pK w' ↔ Chg no w1 w') := hpK
  have Y0 : Chg no w1 w1.drew := (Chg.refl no w1).drew
  clear hpK
  refine far.region_farM (fun κ w' => pK w') [2, 3] (by kernel_rfl) (by kernel_rfl) ((HpK.out _).2 Y0) ?_
  intro LP e1' e2' e3'
  refine far.farO_stretch pK 2 0 2 e1' e2' e3' (by kernel_rfl) (by kernel_rfl) (fun κ w' hk1 hk2 hC => hC) ?_
  simp only [List.take_succ_cons, List.take_zero, List.drop_succ_cons, List.drop_zero, Nat.reduceAdd]
  repeat (go_big_quiet_step (fail))
  refine wpQuiet_nil ?_
  refine far.farO_enter e1' e2' 0 rfl rfl 25 #[cfgV ⟨h, z, b, r, rd, wr, s, p, q, t⟩ (.slice a n c)] (by kernel_rfl) (by kernel_rfl) ?_
  refine (HL.out _).mono ?_
  rintro e w2 ⟨rfl, k1⟩
  have Y1 := Y0.then k1
  refine ⟨_, rfl, (HpK.out _).2 Y1, ?_⟩
  simp only [Act.put, List.setIfInBounds_toArray, List.set_cons_succ, List.set_cons_zero, Nat.reduceAdd]
  refine far.farO_enter e1' e2' 1 rfl rfl 81 #[cfgV ⟨h, z, b, r, rd, wr, s, p, q, t⟩ (.slice a n c), .int .i64 (ln : Int)] (by kernel_rfl) (by kernel_rfl) ?_
  refine (HC.out _).mono ?_
  rintro e w3 ⟨rfl, k2⟩
  have Y2 := Y1.then k2
  refine ⟨_, rfl, (HpK.out _).2 Y2, ?_⟩
  simp only [Act.put, List.setIfInBounds_toArray, List.set_cons_succ, List.set_cons_zero, Nat.reduceAdd]
  refine far.farO_stretch pK 1 0 2 e1' e2' e3' (by kernel_rfl) (by kernel_rfl) (fun κ w' hk1 hk2 hC => hC) ?_
  simp only [List.take_succ_cons, List.take_zero, List.drop_succ_cons, List.drop_zero, Nat.reduceAdd]
  repeat (go_big_quiet_step (fail))
  refine wpQuiet_nil ?_
  refine far.farO_nil ?_
  go_wp2
  go_ret
  exact ⟨rfl, HK.out.then Y2⟩

theorem deltac_any (w : World) (K : Cf) (hK : okC K) (a : Option Addr) (n c : Nat) : Calls Try.prog 71 #[cfgV K (.slice a n c)] w fun e w' => e = .returned (.int .i64 ((cDelta K : Nat) : Int)) ∧ Chg no w w' := by
  obtain ⟨l0, l1, l2, l3, l4, l5, l6⟩ := slen_le hK
  have HL : Hid (∀ W, _) := fun W => delta_any W K hK a n c
  have HC : Hid (∀ W, Calls Try.prog 81 #[cfgV K (.slice a n c), .int .i64 ((deltaN K : Nat) : Int)] W fun e w' => e = .returned (.int .i64 ((cDelta K : Nat) : Int)) ∧ Chg no W w') := fun W => cells_any W K hK a n c (deltaN K) (by omega) (by omega)
  obtain ⟨R, hR⟩ : ∃ x, cDelta K = x := ⟨_, rfl⟩
  simp only [hR] at HC ⊢
  obtain ⟨ln, hln⟩ : ∃ x, deltaN K = x := ⟨_, rfl⟩
  simp only [hln] at HL HC
  obtain ⟨h, z, b, r, rd, wr, s, p, q, t⟩ := K
  try simp only at *
  clear hK hR hln l0 l1 l2 l3 l4 l5 l6
  go_enter Try.func71, Try.ntmps71
  go_wp2_with fail
  obtain ⟨w1, hw1⟩ : ∃ w1, w.alloc (laO h z b r rd wr s p q t (.slice a n c)) = w1 := ⟨_, rfl⟩
  have HB : Hid (w1.heap[w.heap.size]? = some (laO h z b r rd wr s p q t (.slice a n c))) := by show _ = _; rw [← hw1]; exact heap_alloc_new w _
  have HK : Hid (Chg no w w1) := by rw [← hw1]; exact (Chg.refl no w).alloc _
  rw [hw1]
  obtain ⟨g, hg⟩ : ∃ g, w.heap.size = g := ⟨_, rfl⟩
  rw [hg] at HB ⊢
  clear hw1 hg
  obtain ⟨pK, hpK⟩ : ∃ pK : World → Prop, ∀ w', pK w' ↔ Chg no w1 w' := ⟨_, fun _ => Iff.rfl⟩
  obtain ⟨x0, x1, x2, x3, x4, x5, x6, x7, x8, x9, x10, iK⟩ := la_facts hpK HB.out
  have HpK : Hid (∀ w', pK w' ↔ Chg no w1 w') := hpK
  have Y0 : Chg no w1 w1.drew := (Chg.refl no w1).drew
  clear hpK
  refine far.region_farM (fun κ w' => pK w') [2, 3] (by kernel_rfl) (by kernel_rfl) ((HpK.out _).2 Y0) ?_
  intro LP e1' e2' e3'
  refine far.farO_stretch pK 2 0 2 e1' e2' e3' (by kernel_rfl) (by kernel_rfl) (fun κ w' hk1 hk2 hC => hC) ?_
  simp only [List.take_succ_cons, List.take_zero, List.drop_succ_cons, List.drop_zero, Nat.reduceAdd]
  repeat (go_big_quiet_step (fail))
  refine wpQuiet_nil ?_
  refine far.farO_enter e1' e2' 0 rfl rfl 21 #[cfgV ⟨h, z, b, r, rd, wr, s, p, q, t⟩ (.slice a n c)] (by kernel_rfl) (by kernel_rfl) ?_
  refine (HL.out _).mono ?_
  rintro e w2 ⟨rfl, k1⟩
  have Y1 := Y0.then k1
  refine ⟨_, rfl, (HpK.out _).2 Y1, ?_⟩
  simp only [Act.put, List.setIfInBounds_toArray, List.set_cons_succ, List.set_cons_zero, Nat.reduceAdd]
  refine far.farO_enter e1' e2' 1 rfl rfl 81 #[cfgV ⟨h, z, b, r, rd, wr, s, p, q, t⟩ (.slice a n c), .int .i64 (ln : Int)] (by kernel_rfl) (by kernel_rfl) ?_
  refine (HC.out _).mono ?_
  rintro e w3 ⟨rfl, k2⟩
  have Y2 := Y1.then k2
  refine ⟨_, rfl, (HpK.out _).2 Y2, ?_⟩
  simp only [Act.put, List.setIfInBounds_toArray, List.set_cons_succ, List.set_cons_zero, Nat.reduceAdd]
  refine far.farO_stretch pK 1 0 2 e1' e2' e3' (by kernel_rfl) (by kernel_rfl) (fun κ w' hk1 hk2 hC => hC) ?_
  simp only [List.take_succ_cons, List.take_zero, List.drop_succ_cons, List.drop_zero, Nat.reduceAdd]
  repeat (go_big_quiet_step (fail))
  refine wpQuiet_nil ?_
  refine far.farO_nil ?_
  go_wp2
  go_ret
  exact ⟨rfl, HK.out.then Y2⟩

theorem fullc_any (w : World) (K : Cf) (hK : okC K) (a : Option Addr) (n c : Nat) : Calls Try.prog 73 #[cfgV K (.slice a n c)] w fun e w' => e = .returned (.int .i64 ((cFull K : Nat) : Int)) ∧ Chg no w w' := by
  obtain ⟨l0, l1, l2, l3, l4, l5, l6⟩ := slen_le hK
  have HL : Hid (∀ W, _) := fun W => full_any W K hK a n c
  have HC : Hid (∀ W, Calls Try.prog 81 #[cfgV K (.slice a n c), .int .i64 ((fullN K : Nat) : Int)] W fun e w' => e = .returned (.int .i64 ((cFull K : Nat) : Int)) ∧ Chg no W w') := fun W => cells_any W K hK a n c (fullN K) (by omega) (by omega)
  obtain ⟨R, hR⟩ : ∃ x, cFull K = x := ⟨_, rfl⟩
  simp only [hR] at HC ⊢
  obtain ⟨ln, hln⟩ : ∃ x, fullN K = x := ⟨_, rfl⟩
  simp only [hln] at HL HC
  obtain ⟨h, z, b, r, rd, wr, s, p, q, t⟩ := K
  try simp only at *
  clear hK hR hln l0 l1 l2 l3 l4 l5 l6
  go_enter Try.func73, Try.ntmps73
  go_wp2_with fail
  obtain ⟨w1, hw1⟩ : ∃ w1, w.alloc (laO h z b r rd wr s p q t (.slice a n c)) = w1 := ⟨_, rfl⟩
  have HB : Hid (w1.heap[w.heap.size]? = some (laO h z b r rd wr s p q t (.slice a n c))) := by show _ = _; rw [← hw1]; exact heap_alloc_new w _
  have HK : Hid (Chg no w w1) := by rw [← hw1]; exact (Chg.refl no w).alloc _
  rw [hw1]
  obtain ⟨g, hg⟩ : ∃ g, w.heap.size = g := ⟨_, rfl⟩
  rw [hg] at HB ⊢
  clear hw1 hg
  obtain ⟨pK, hpK⟩ : ∃ pK : World → Prop, ∀ w', pK w' ↔ Chg no w1 w' := ⟨_, fun _ => Iff.rfl⟩
  obtain ⟨x0, x1, x2, x3, x4, x5, x6, x7, x8, x9, x10, iK⟩ := la_facts hpK HB.out
  have HpK : Hid (∀ w', pK w' ↔ Chg no w1 w') := hpK
  have Y0 : Chg no w1 w1.drew := (Chg.refl no w1).drew
  clear hpK
  refine far.region_farM (fun κ w' => pK w') [2, 3] (by kernel_rfl) (by kernel_rfl) ((HpK.out _).2 Y0) ?_
  intro LP e1' e2' e3'
  refine far.farO_stretch pK 2 0 2 e1' e2' e3' (by kernel_rfl) (by kernel_rfl) (fun κ w' hk1 hk2 hC => hC) ?_
  simp only [List.take_succ_cons, List.take_zero, List.drop_succ_cons, List.drop_zero, Nat.reduceAdd]
  repeat (go_big_quiet_step (fail))
  refine wpQuiet_nil ?_
  refine far.farO_enter e1' e2' 0 rfl rfl 23 #[cfgV ⟨h, z, b, r, rd, wr, s, p, q, t⟩ (.slice a n c)] (by kernel_rfl) (by kernel_rfl) ?_
  refine (HL.out _).mono ?_
  rintro e w2 ⟨rfl, k1⟩
  have Y1 := Y0.then k1
  refine ⟨_, rfl, (HpK.out _).2 Y1, ?_⟩
  simp only [Act.put, List.setIfInBounds_toArray, List.set_cons_succ, List.set_cons_zero, Nat.reduceAdd]
  refine far.farO_enter e1' e2' 1 rfl rfl 81 #[cfgV ⟨h, z, b, r, rd, wr, s, p, q, t⟩ (.slice a n c), .int .i64 (ln : Int)] (by kernel_rfl) (by kernel_rfl) ?_
  refine (HC.out _).mono ?_
  rintro e w3 ⟨rfl, k2⟩
  have Y2 := Y1.then k2
  refine ⟨_, rfl, (HpK.out _).2 Y2, ?_⟩
  simp only [Act.put, List.setIfInBounds_toArray, List.set_cons_succ, List.set_cons_zero, Nat.reduceAdd]
  refine far.farO_stretch pK 1 0 2 e1' e2' e3' (by kernel_rfl) (by kernel_rfl) (fun κ w' hk1 hk2 hC => hC) ?_
  simp only [List.take_succ_cons, List.take_zero, List.drop_succ_cons, List.drop_zero, Nat.reduceAdd]
  repeat (go_big_quiet_step (fail))
  refine wpQuiet_nil ?_
  refine far.farO_nil ?_
  go_wp2
  go_ret
  exact ⟨rfl, HK.out.then Y2⟩

theorem fst0_any (w : World) (K : Cf) (a : Option Addr) (n c : Nat) : Calls Try.prog 63 #[cfgV K (.slice a n c)] w fun e w' => e = .returned (.int .i64 2) ∧ Chg no w w' := by
  obtain ⟨h, z, b, r, rd, wr, s, p, q, t⟩ := K
  go_enter Try.func63, Try.ntmps63
  go_wp2
  go_ret
  exact ⟨rfl, (Chg.refl no w).alloc _⟩

theorem fst1_any (w : World) (K : Cf) (hK : okC K) (a : Option Addr) (n c : Nat) : Calls Try.prog 67 #[cfgV K (.slice a n c)] w fun e w' => e = .returned (.int .i64 ((st1 K : Nat) : Int)) ∧ Chg no w w' := by
  have hst := st_le hK
  have hsm := small hK
  have f1 := hsm.log
  have f2 := hsm.clog
  have f3 := hsm.delta
  have f4 := hsm.full
  obtain ⟨_, hS, _⟩ := slots_le hK
  obtain ⟨hk1, hk2⟩ := buckets_le hK
  have hp8 := hK.p
  have he : Hid (2 + ((slotsN K : Nat) : Int) * ((cLog K : Nat) : Int) = ((st1 K : Nat) : Int)) := by show _ = _; unfold st1; rw [Int.natCast_add, Int.natCast_mul]; rfl
  have H1 : Hid (∀ W, _) := fun W => fst0_any W K a n c
  have H2 : Hid (∀ W, _) := fun W => slots_any W K hK a n c
  have H3 : Hid (∀ W, _) := fun W => logc_any W K hK a n c
  obtain ⟨S, hES⟩ : ∃ x, slotsN K = x := ⟨_, rfl⟩
  obtain ⟨L, hEL⟩ : ∃ x, cLog K = x := ⟨_, rfl⟩
  obtain ⟨T, hET⟩ : ∃ x, st1 K = x := ⟨_, rfl⟩
  simp only [hES, hEL, hET] at H1 H2 H3 hst f1 f2 f3 f4 hS hk1 hk2 he ⊢
  have hm : (S : Int) * (L : Int) ≤ 40 := by rw [f1]; omega
  have hm0 : 0 ≤ (S : Int) * (L : Int) := by rw [f1]; omega
  have HE := he
  obtain ⟨h, z, b, r, rd, wr, s, p, q, t⟩ := K
  try simp only at *
  clear hK hsm hst f1 f2 f3 f4 hS hk1 hk2 hp8 he hES hEL hET
  go_enter Try.func67, Try.ntmps67
  go_wp2_with fail
  obtain ⟨w1, hw1⟩ : ∃ w1, w.alloc (laO h z b r rd wr s p q t (.slice a n c)) = w1 := ⟨_, rfl⟩
  have HB : Hid (w1.heap[w.heap.size]? = some (laO h z b r rd wr s p q t (.slice a n c))) := by show _ = _; rw [← hw1]; exact heap_alloc_new w _
  have HK : Hid (Chg no w w1) := by rw [← hw1]; exact (Chg.refl no w).alloc _
  rw [hw1]
  obtain ⟨g, hg⟩ : ∃ g, w.heap.size = g := ⟨_, rfl⟩
  rw [hg] at HB ⊢
  clear hw1 hg
  obtain ⟨pK, hpK⟩ : ∃ pK : World → Prop, ∀ w', pK w' ↔ Chg no w1 w' := ⟨_, fun _ => Iff.rfl⟩
  obtain ⟨x0, x1, x2, x3, x4, x5, x6, x7, x8, x9, x10, iK⟩ := la_facts hpK HB.out
  have HpK : Hid (∀ w', pK w' ↔ Chg no w1 w') := hpK
  have Y0 : Chg no w1 w1.drew := (Chg.refl no w1).drew
  clear hpK
  refine far.region_farM (fun κ w' => pK w') [1, 3, 5] (by kernel_rfl) (by kernel_rfl) ((HpK.out _).2 Y0) ?_
  intro LP e1' e2' e3'
  refine far.farO_stretch pK 1 0 3 e1' e2' e3' (by kernel_rfl) (by kernel_rfl) (fun κ w' hk1 hk2 hC => hC) ?_
  simp only [List.take_succ_cons, List.take_zero, List.drop_succ_cons, List.drop_zero, Nat.reduceAdd]
  repeat (go_big_quiet_step (fail))
  refine wpQuiet_nil ?_
  refine far.farO_enter e1' e2' 0 rfl rfl 63 #[cfgV ⟨h, z, b, r, rd, wr, s, p, q, t⟩ (.slice a n c)] (by kernel_rfl) (by kernel_rfl) ?_
  refine (H1.out _).mono ?_
  rintro e w2 ⟨rfl, k1⟩
  have Y1 := Y0.then k1
  refine ⟨_, rfl, (HpK.out _).2 Y1, ?_⟩
  simp only [Act.put, List.setIfInBounds_toArray, List.set_cons_succ, List.set_cons_zero, Nat.reduceAdd]
  refine far.farO_stretch pK 1 0 3 e1' e2' e3' (by kernel_rfl) (by kernel_rfl) (fun κ w' hk1 hk2 hC => hC) ?_
  simp only [List.take_succ_cons, List.take_zero, List.drop_succ_cons, List.drop_zero, Nat.reduceAdd]
  repeat (go_big_quiet_step (fail))
  refine wpQuiet_nil ?_
  refine far.farO_enter e1' e2' 1 rfl rfl 16 #[cfgV ⟨h, z, b, r, rd, wr, s, p, q, t⟩ (.slice a n c)] (by kernel_rfl) (by kernel_rfl) ?_
  refine (H2.out _).mono ?_
  rintro e w3 ⟨rfl, k2⟩
  have Y2 := Y1.then k2
  refine ⟨_, rfl, (HpK.out _).2 Y2, ?_⟩
  simp only [Act.put, List.setIfInBounds_toArray, List.set_cons_succ, List.set_cons_zero, Nat.reduceAdd]
  refine far.farO_stretch pK 1 0 3 e1' e2' e3' (by kernel_rfl) (by kernel_rfl) (fun κ w' hk1 hk2 hC => hC) ?_
  simp only [List.take_succ_cons, List.take_zero, List.drop_succ_cons, List.drop_zero, Nat.reduceAdd]
  repeat (go_big_quiet_step (fail))
  refine wpQuiet_nil ?_
  refine far.farO_enter e1' e2' 2 rfl rfl 64 #[cfgV ⟨h, z, b, r, rd, wr, s, p, q, t⟩ (.slice a n c)] (by kernel_rfl) (by kernel_rfl) ?_
  refine (H3.out _).mono ?_
  rintro e w4 ⟨rfl, k3⟩
  have Y3 := Y2.then k3
  refine ⟨_, rfl, (HpK.out _).2 Y3, ?_⟩
  simp only [Act.put, List.setIfInBounds_toArray, List.set_cons_succ, List.set_cons_zero, Nat.reduceAdd]
  refine far.farO_stretch pK 3 0 3 e1' e2' e3' (by kernel_rfl) (by kernel_rfl) (fun κ w' hk1 hk2 hC => hC) ?_
  simp only [List.take_succ_cons, List.take_zero, List.drop_succ_cons, List.drop_zero, Nat.reduceAdd]
  repeat (go_big_quiet_step (fail))
  refine wpQuiet_nil ?_
  refine far.farO_nil ?_
  go_wp2
  go_ret
  exact ⟨ret_int (by have := HE.out; omega), HK.out.then Y3⟩

theorem fst2_any (w : World) (K : Cf) (hK : okC K) (a : Option Addr) (n c : Nat) : Calls Try.prog 70 #[cfgV K (.slice a n c)] w fun e w' => e = .returned (.int .i64 ((st2 K : Nat) : Int)) ∧ Chg no w w' := by
  have hst := st_le hK
  have hsm := small hK
  have f1 := hsm.log
  have f2 := hsm.clog
  have f3 := hsm.delta
  have f4 := hsm.full
  obtain ⟨_, hS, _⟩ := slots_le hK
  obtain ⟨hk1, hk2⟩ := buckets_le hK
  have hp8 := hK.p
  have he : Hid (((st1 K : Nat) : Int) + 2 * ((cClog K : Nat) : Int) = ((st2 K : Nat) : Int)) := by show _ = _; unfold st2; omega
  have H1 : Hid (∀ W, _) := fun W => fst1_any W K hK a n c
  have H2 : Hid (∀ W, _) := fun W => clogc_any W K hK a n c
  obtain ⟨S, hES⟩ : ∃ x, st1 K = x := ⟨_, rfl⟩
  obtain ⟨L, hEL⟩ : ∃ x, cClog K = x := ⟨_, rfl⟩
  obtain ⟨T, hET⟩ : ∃ x, st2 K = x := ⟨_, rfl⟩
  simp only [hES, hEL, hET] at H1 H2 hst f1 f2 f3 f4 hS hk1 hk2 he ⊢
  have hSi : (S : Int) ≤ 42 := by omega
  have hLi : (L : Int) ≤ 9 := by omega
  have HE := he
  obtain ⟨h, z, b, r, rd, wr, s, p, q, t⟩ := K
  try simp only at *
  clear hK hsm hst f1 f2 f3 f4 hS hk1 hk2 hp8 he hES hEL hET
  go_enter Try.func70, Try.ntmps70
  go_wp2_with fail
  obtain ⟨w1, hw1⟩ : ∃ w1, w.alloc (laO h z b r rd wr s p q t (.slice a n c)) = w1 := ⟨_, rfl⟩
  have HB : Hid (w1.heap[w.heap.size]? = some (laO h z b r rd wr s p q t (.slice a n c))) := by show _ = _; rw [← hw1]; exact heap_alloc_new w _
  have HK : Hid (Chg no w w1) := by rw [← hw1]; exact (Chg.refl no w).alloc _
  rw [hw1]
  obtain ⟨g, hg⟩ : ∃ g, w.heap.size = g := ⟨_, rfl⟩
  rw [hg] at HB ⊢
  clear hw1 hg
  obtain ⟨pK, hpK⟩ : ∃ pK : World → Prop, ∀ w', pK w' ↔ Chg no w1 w' := ⟨_, fun _ => Iff.rfl⟩
  obtain ⟨x0, x1, x2, x3, x4, x5, x6, x7, x8, x9, x10, iK⟩ := la_facts hpK HB.out
  have HpK : Hid (∀ w', pK w' ↔ Chg no w1 w') := hpK
  have Y0 : Chg no w1 w1.drew := (Chg.refl no w1).drew
  clear hpK
  refine far.region_farM (fun κ w' => pK w') [1, 3] (by kernel_rfl) (by kernel_rfl) ((HpK.out _).2 Y0) ?_
  intro LP e1' e2' e3'
  refine far.farO_stretch pK 1 0 2 e1' e2' e3' (by kernel_rfl) (by kernel_rfl) (fun κ w' hk1 hk2 hC => hC) ?_
  simp only [List.take_succ_cons, List.take_zero, List.drop_succ_cons, List.drop_zero, Nat.reduceAdd]
  repeat (go_big_quiet_step (fail))
  refine wpQuiet_nil ?_
  refine far.farO_enter e1' e2' 0 rfl rfl 67 #[cfgV ⟨h, z, b, r, rd, wr, s, p, q, t⟩ (.slice a n c)] (by kernel_rfl) (by kernel_rfl) ?_
  refine (H1.out _).mono ?_
  rintro e w2 ⟨rfl, k1⟩
  have Y1 := Y0.then k1
  refine ⟨_, rfl, (HpK.out _).2 Y1, ?_⟩
  simp only [Act.put, List.setIfInBounds_toArray, List.set_cons_succ, List.set_cons_zero, Nat.reduceAdd]
  refine far.farO_stretch pK 1 0 2 e1' e2' e3' (by kernel_rfl) (by kernel_rfl) (fun κ w' hk1 hk2 hC => hC) ?_
  simp only [List.take_succ_cons, List.take_zero, List.drop_succ_cons, List.drop_zero, Nat.reduceAdd]
  repeat (go_big_quiet_step (fail))
  refine wpQuiet_nil ?_
  refine far.farO_enter e1' e2' 1 rfl rfl 68 #[cfgV ⟨h, z, b, r, rd, wr, s, p, q, t⟩ (.slice a n c)] (by kernel_rfl) (by kernel_rfl) ?_
  refine (H2.out _).mono ?_
  rintro e w3 ⟨rfl, k2⟩
  have Y2 := Y1.then k2
  refine ⟨_, rfl, (HpK.out _).2 Y2, ?_⟩
  simp only [Act.put, List.setIfInBounds_toArray, List.set_cons_succ, List.set_cons_zero, Nat.reduceAdd]
  refine far.farO_stretch pK 3 0 2 e1' e2' e3' (by kernel_rfl) (by kernel_rfl) (fun κ w' hk1 hk2 hC => hC) ?_
  simp only [List.take_succ_cons, List.take_zero, List.drop_succ_cons, List.drop_zero, Nat.reduceAdd]
  repeat (go_big_quiet_step (fail))
  refine wpQuiet_nil ?_
  refine far.farO_nil ?_
  go_wp2
  go_ret
  exact ⟨ret_int (by have := HE.out; omega), HK.out.then Y2⟩

theorem fst3_any (w : World) (K : Cf) (hK : okC K) (a : Option Addr) (n c : Nat) : Calls Try.prog 72 #[cfgV K (.slice a n c)] w fun e w' => e = .returned (.int .i64 ((st3 K : Nat) : Int)) ∧ Chg no w w' := by
  have hst := st_le hK
  have hsm := small hK
  have f1 := hsm.log
  have f2 := hsm.clog
  have f3 := hsm.delta
  have f4 := hsm.full
  obtain ⟨_, hS, _⟩ := slots_le hK
  obtain ⟨hk1, hk2⟩ := buckets_le hK
  have hp8 := hK.p
  have he : Hid (((st2 K : Nat) : Int) + 2 * ((K.p : Int) - 1) * ((cDelta K : Nat) : Int) = ((st3 K : Nat) : Int)) := by show _ = _; unfold st3; rw [Int.natCast_add, Int.natCast_mul, Int.natCast_mul, Int.ofNat_sub hp8.1]; rfl
  have H1 : Hid (∀ W, _) := fun W => fst2_any W K hK a n c
  have H2 : Hid (∀ W, _) := fun W => deltac_any W K hK a n c
  obtain ⟨S, hES⟩ : ∃ x, st2 K = x := ⟨_, rfl⟩
  obtain ⟨L, hEL⟩ : ∃ x, cDelta K = x := ⟨_, rfl⟩
  obtain ⟨T, hET⟩ : ∃ x, st3 K = x := ⟨_, rfl⟩
  simp only [hES, hEL, hET] at H1 H2 hst f1 f2 f3 f4 hS hk1 hk2 he ⊢
  have hSi : (S : Int) ≤ 60 := by omega
  have hTi : (T : Int) ≤ 1110 := by omega
  have hm : 2 * ((K.p : Int) - 1) * (L : Int) ≤ 1110 := by have := he.out; omega
  have hm0 : 0 ≤ 2 * ((K.p : Int) - 1) * (L : Int) := Int.mul_nonneg (by omega) (by omega)
  have hpi : (K.p : Int) ≤ 8 := by omega
  have hpi1 : 1 ≤ (K.p : Int) := by omega
  have HE := he
  obtain ⟨h, z, b, r, rd, wr, s, p, q, t⟩ := K
  try simp only at *
  clear hK hsm hst f1 f2 f3 f4 hS hk1 hk2 hp8 he hES hEL hET
  go_enter Try.func72, Try.ntmps72
  go_wp2_with fail
  obtain ⟨w1, hw1⟩ : ∃ w1, w.alloc (laO h z b r rd wr s p q t (.slice a n c)) = w1 := ⟨_, rfl⟩
  have HB : Hid (w1.heap[w.heap.size]? = some (laO h z b r rd wr s p q t (.slice a n c))) := by show _ = _; rw [← hw1]; exact heap_alloc_new w _
  have HK : Hid (Chg no w w1) := by rw [← hw1]; exact (Chg.refl no w).alloc _
  rw [hw1]
  obtain ⟨g, hg⟩ : ∃ g, w.heap.size = g := ⟨_, rfl⟩
  rw [hg] at HB ⊢
  clear hw1 hg
  obtain ⟨pK, hpK⟩ : ∃ pK : World → Prop, ∀ w', pK w' ↔ Chg no w1 w' := ⟨_, fun _ => Iff.rfl⟩
  obtain ⟨x0, x1, x2, x3, x4, x5, x6, x7, x8, x9, x10, iK⟩ := la_facts hpK HB.out
  have HpK : Hid (∀ w', pK w' ↔ Chg no w1 w') := hpK
  have Y0 : Chg no w1 w1.drew := (Chg.refl no w1).drew
  clear hpK
  refine far.region_farM (fun κ w' => pK w') [1, 8] (by kernel_rfl) (by kernel_rfl) ((HpK.out _).2 Y0) ?_
  intro LP e1' e2' e3'
  refine far.farO_stretch pK 1 0 2 e1' e2' e3' (by kernel_rfl) (by kernel_rfl) (fun κ w' hk1 hk2 hC => hC) ?_
  simp only [List.take_succ_cons, List.take_zero, List.drop_succ_cons, List.drop_zero, Nat.reduceAdd]
  repeat (go_big_quiet_step (fail))
  refine wpQuiet_nil ?_
  refine far.farO_enter e1' e2' 0 rfl rfl 70 #[cfgV ⟨h, z, b, r, rd, wr, s, p, q, t⟩ (.slice a n c)] (by kernel_rfl) (by kernel_rfl) ?_
  refine (H1.out _).mono ?_
  rintro e w2 ⟨rfl, k1⟩
  have Y1 := Y0.then k1
  refine ⟨_, rfl, (HpK.out _).2 Y1, ?_⟩
  simp only [Act.put, List.setIfInBounds_toArray, List.set_cons_succ, List.set_cons_zero, Nat.reduceAdd]
  refine far.farO_stretch pK 6 0 2 e1' e2' e3' (by kernel_rfl) (by kernel_rfl) (fun κ w' hk1 hk2 hC => hC) ?_
  simp only [List.take_succ_cons, List.take_zero, List.drop_succ_cons, List.drop_zero, Nat.reduceAdd]
  repeat (go_big_quiet_step (fail))
  refine wpQuiet_nil ?_
  refine far.farO_enter e1' e2' 1 rfl rfl 71 #[cfgV ⟨h, z, b, r, rd, wr, s, p, q, t⟩ (.slice a n c)] (by kernel_rfl) (by kernel_rfl) ?_
  refine (H2.out _).mono ?_
  rintro e w3 ⟨rfl, k2⟩
  have Y2 := Y1.then k2
  refine ⟨_, rfl, (HpK.out _).2 Y2, ?_⟩
  simp only [Act.put, List.setIfInBounds_toArray, List.set_cons_succ, List.set_cons_zero, Nat.reduceAdd]
  refine far.farO_stretch pK 3 0 2 e1' e2' e3' (by kernel_rfl) (by kernel_rfl) (fun κ w' hk1 hk2 hC => hC) ?_
  simp only [List.take_succ_cons, List.take_zero, List.drop_succ_cons, List.drop_zero, Nat.reduceAdd]
  repeat (go_big_quiet_step (fail))
  refine wpQuiet_nil ?_
  refine far.farO_nil ?_
  go_wp2
  go_ret
  exact ⟨ret_int (by have := HE.out; omega), HK.out.then Y2⟩

theorem fst4_any (w : World) (K : Cf) (hK : okC K) (a : Option Addr) (n c : Nat) : Calls Try.prog 74 #[cfgV K (.slice a n c)] w fun e w' => e = .returned (.int .i64 ((st4 K : Nat) : Int)) ∧ Chg no w w' := by
  have hst := st_le hK
  have hsm := small hK
  have f1 := hsm.log
  have f2 := hsm.clog
  have f3 := hsm.delta
  have f4 := hsm.full
  obtain ⟨_, hS, _⟩ := slots_le hK
  obtain ⟨hk1, hk2⟩ := buckets_le hK
  have hp8 := hK.p
  have he : Hid (((st3 K : Nat) : Int) + 2 * ((cFull K : Nat) : Int) = ((st4 K : Nat) : Int)) := by show _ = _; unfold st4; omega
  have H1 : Hid (∀ W, _) := fun W => fst3_any W K hK a n c
  have H2 : Hid (∀ W, _) := fun W => fullc_any W K hK a n c
  obtain ⟨S, hES⟩ : ∃ x, st3 K = x := ⟨_, rfl⟩
  obtain ⟨L, hEL⟩ : ∃ x, cFull K = x := ⟨_, rfl⟩
  obtain ⟨T, hET⟩ : ∃ x, st4 K = x := ⟨_, rfl⟩
  simp only [hES, hEL, hET] at H1 H2 hst f1 f2 f3 f4 hS hk1 hk2 he ⊢
  have hSi : (S : Int) ≤ 1110 := by omega
  have hLi : (L : Int) ≤ 92 := by omega
  have HE := he
  obtain ⟨h, z, b, r, rd, wr, s, p, q, t⟩ := K
  try simp only at *
  clear hK hsm hst f1 f2 f3 f4 hS hk1 hk2 hp8 he hES hEL hET
  go_enter Try.func74, Try.ntmps74
  go_wp2_with fail
  obtain ⟨w1, hw1⟩ : ∃ w1, w.alloc (laO h z b r rd wr s p q t (.slice a n c)) = w1 := ⟨_, rfl⟩
  have HB : Hid (w1.heap[w.heap.size]? = some (laO h z b r rd wr s p q t (.slice a n c))) := by show _ = _; rw [← hw1]; exact heap_alloc_new w _
  have HK : Hid (Chg no w w1) := by rw [← hw1]; exact (Chg.refl no w).alloc _
  rw [hw1]
  obtain ⟨g, hg⟩ : ∃ g, w.heap.size = g := ⟨_, rfl⟩
  rw [hg] at HB ⊢
  clear hw1 hg
  obtain ⟨pK, hpK⟩ : ∃ pK : World → Prop, ∀ w', pK w' ↔ Chg no w1 w' := ⟨_, fun _ => Iff.rfl⟩
  obtain ⟨x0, x1, x2, x3, x4, x5, x6, x7, x8, x9, x10, iK⟩ := la_facts hpK HB.out
  have HpK : Hid (∀ w', pK w' ↔ Chg no w1 w') := hpK
  have Y0 : Chg no w1 w1.drew := (Chg.refl no w1).drew
  clear hpK
  refine far.region_farM (fun κ w' => pK w') [1, 3] (by kernel_rfl) (by kernel_rfl) ((HpK.out _).2 Y0) ?_
  intro LP e1' e2' e3'
  refine far.farO_stretch pK 1 0 2 e1' e2' e3' (by kernel_rfl) (by kernel_rfl) (fun κ w' hk1 hk2 hC => hC) ?_
  simp only [List.take_succ_cons, List.take_zero, List.drop_succ_cons, List.drop_zero, Nat.reduceAdd]
  repeat (go_big_quiet_step (fail))
  refine wpQuiet_nil ?_
  refine far.farO_enter e1' e2' 0 rfl rfl 72 #[cfgV ⟨h, z, b, r, rd, wr, s, p, q, t⟩ (.slice a n c)] (by kernel_rfl) (by kernel_rfl) ?_
  refine (H1.out _).mono ?_
  rintro e w2 ⟨rfl, k1⟩
  have Y1 := Y0.then k1
  refine ⟨_, rfl, (HpK.out _).2 Y1, ?_⟩
  simp only [Act.put, List.setIfInBounds_toArray, List.set_cons_succ, List.set_cons_zero, Nat.reduceAdd]
  refine far.farO_stretch pK 1 0 2 e1' e2' e3' (by kernel_rfl) (by kernel_rfl) (fun κ w' hk1 hk2 hC => hC) ?_
  simp only [List.take_succ_cons, List.take_zero, List.drop_succ_cons, List.drop_zero, Nat.reduceAdd]
  repeat (go_big_quiet_step (fail))
  refine wpQuiet_nil ?_
  refine far.farO_enter e1' e2' 1 rfl rfl 73 #[cfgV ⟨h, z, b, r, rd, wr, s, p, q, t⟩ (.slice a n c)] (by kernel_rfl) (by kernel_rfl) ?_
  refine (H2.out _).mono ?_
  rintro e w3 ⟨rfl, k2⟩
  have Y2 := Y1.then k2
  refine ⟨_, rfl, (HpK.out _).2 Y2, ?_⟩
  simp only [Act.put, List.setIfInBounds_toArray, List.set_cons_succ, List.set_cons_zero, Nat.reduceAdd]
  refine far.farO_stretch pK 3 0 2 e1' e2' e3' (by kernel_rfl) (by kernel_rfl) (fun κ w' hk1 hk2 hC => hC) ?_
  simp only [List.take_succ_cons, List.take_zero, List.drop_succ_cons, List.drop_zero, Nat.reduceAdd]
  repeat (go_big_quiet_step (fail))
  refine wpQuiet_nil ?_
  refine far.farO_nil ?_
  go_wp2
  go_ret
  exact ⟨ret_int (by have := HE.out; omega), HK.out.then Y2⟩

theorem total_any (w : World) (K : Cf) (hK : okC K) (a : Option Addr) (n c : Nat) : Calls Try.prog 40 #[cfgV K (.slice a n c)] w fun e w' => e = .returned (.int .i64 ((st5 K : Nat) : Int)) ∧ Chg no w w' := by
  have hst := st_le hK
  have hsm := small hK
  have f1 := hsm.log
  have f2 := hsm.clog
  have f3 := hsm.delta
  have f4 := hsm.full
  obtain ⟨_, hS, _⟩ := slots_le hK
  obtain ⟨hk1, hk2⟩ := buckets_le hK
  have hp8 := hK.p
  have he : Hid (((st4 K : Nat) : Int) + 2 * ((bucketsN K : Nat) : Int) = ((st5 K : Nat) : Int)) := by show _ = _; unfold st5; omega
  have H1 : Hid (∀ W, _) := fun W => fst4_any W K hK a n c
  have H2 : Hid (∀ W, Calls Try.prog 60 #[.int .i64 (K.h : Int)] W fun e w' => e = .returned (.int .i64 ((bucketsN K : Nat) : Int)) ∧ Chg no W w') := fun W => (buckets_any W K.h hK.h).mono fun e w' h => ⟨h.1, by rw [h.2]; exact Chg.refl no W⟩
  obtain ⟨L, hL⟩ : ∃ x, bucketsN K = x := ⟨_, rfl⟩
  obtain ⟨S, hES⟩ : ∃ x, st4 K = x := ⟨_, rfl⟩
  obtain ⟨T, hET⟩ : ∃ x, st5 K = x := ⟨_, rfl⟩
  simp only [hES, hET, hL] at H1 H2 hst f1 f2 f3 f4 hS hk1 hk2 he ⊢
  have hSi : (S : Int) ≤ 1294 := by omega
  have hLi : (L : Int) ≤ 127 := by omega
  have HE := he
  obtain ⟨h, z, b, r, rd, wr, s, p, q, t⟩ := K
  try simp only at *
  clear hK hsm hst f1 f2 f3 f4 hS hk1 hk2 hp8 he hES hET hL
  go_enter Try.func40, Try.ntmps40
  go_wp2_with fail
  obtain ⟨w1, hw1⟩ : ∃ w1, w.alloc (laO h z b r rd wr s p q t (.slice a n c)) = w1 := ⟨_, rfl⟩
  have HB : Hid (w1.heap[w.heap.size]? = some (laO h z b r rd wr s p q t (.slice a n c))) := by show _ = _; rw [← hw1]; exact heap_alloc_new w _
  have HK : Hid (Chg no w w1) := by rw [← hw1]; exact (Chg.refl no w).alloc _
  rw [hw1]
  obtain ⟨g, hg⟩ : ∃ g, w.heap.size = g := ⟨_, rfl⟩
  rw [hg] at HB ⊢
  clear hw1 hg
  obtain ⟨pK, hpK⟩ : ∃ pK : World → Prop, ∀ w', pK w' ↔ Chg no w1 w' := ⟨_, fun _ => Iff.rfl⟩
  obtain ⟨x0, x1, x2, x3, x4, x5, x6, x7, x8, x9, x10, iK⟩ := la_facts hpK HB.out
  have HpK : Hid (∀ w', pK w' ↔ Chg no w1 w') := hpK
  have Y0 : Chg no w1 w1.drew := (Chg.refl no w1).drew
  clear hpK
  refine far.region_farM (fun κ w' => pK w') [1, 5] (by kernel_rfl) (by kernel_rfl) ((HpK.out _).2 Y0) ?_
  intro LP e1' e2' e3'
  refine far.farO_stretch pK 1 0 2 e1' e2' e3' (by kernel_rfl) (by kernel_rfl) (fun κ w' hk1 hk2 hC => hC) ?_
  simp only [List.take_succ_cons, List.take_zero, List.drop_succ_cons, List.drop_zero, Nat.reduceAdd]
  repeat (go_big_quiet_step (fail))
  refine wpQuiet_nil ?_
  refine far.farO_enter e1' e2' 0 rfl rfl 74 #[cfgV ⟨h, z, b, r, rd, wr, s, p, q, t⟩ (.slice a n c)] (by kernel_rfl) (by kernel_rfl) ?_
  refine (H1.out _).mono ?_
  rintro e w2 ⟨rfl, k1⟩
  have Y1 := Y0.then k1
  refine ⟨_, rfl, (HpK.out _).2 Y1, ?_⟩
  simp only [Act.put, List.setIfInBounds_toArray, List.set_cons_succ, List.set_cons_zero, Nat.reduceAdd]
  refine far.farO_stretch pK 3 0 2 e1' e2' e3' (by kernel_rfl) (by kernel_rfl) (fun κ w' hk1 hk2 hC => hC) ?_
  simp only [List.take_succ_cons, List.take_zero, List.drop_succ_cons, List.drop_zero, Nat.reduceAdd]
  repeat (go_big_quiet_step (fail))
  refine wpQuiet_nil ?_
  refine far.farO_enter e1' e2' 1 rfl rfl 60 #[.int .i64 (h : Int)] (by kernel_rfl) (by kernel_rfl) ?_
  refine (H2.out _).mono ?_
  rintro e w3 ⟨rfl, k2⟩
  have Y2 := Y1.then k2
  refine ⟨_, rfl, (HpK.out _).2 Y2, ?_⟩
  simp only [Act.put, List.setIfInBounds_toArray, List.set_cons_succ, List.set_cons_zero, Nat.reduceAdd]
  refine far.farO_stretch pK 3 0 2 e1' e2' e3' (by kernel_rfl) (by kernel_rfl) (fun κ w' hk1 hk2 hC => hC) ?_
  simp only [List.take_succ_cons, List.take_zero, List.drop_succ_cons, List.drop_zero, Nat.reduceAdd]
  repeat (go_big_quiet_step (fail))
  refine wpQuiet_nil ?_
  refine far.farO_nil ?_
  go_wp2
  go_ret
  exact ⟨ret_int (by have := HE.out; omega), HK.out.then Y2⟩

theorem logops_any (w : World) (K : Cf) (hK : okC K) (a : Option Addr) (n c : Nat) : Calls Try.prog 76 #[cfgV K (.slice a n c)] w fun e w' => e = .returned (.int .i64 ((slotsN K * cLog K : Nat) : Int)) ∧ Chg no w w' := by
  have hst := st_le hK
  have hsm := small hK
  have f1 := hsm.log
  have f2 := hsm.clog
  have f3 := hsm.delta
  have f4 := hsm.full
  obtain ⟨_, hS, _⟩ := slots_le hK
  obtain ⟨hk1, hk2⟩ := buckets_le hK
  have hp8 := hK.p
  have he : Hid (((slotsN K : Nat) : Int) * ((cLog K : Nat) : Int) = ((slotsN K * cLog K : Nat) : Int)) := by show _ = _; rw [Int.natCast_mul]
  have H1 : Hid (∀ W, _) := fun W => slots_any W K hK a n c
  have H2 : Hid (∀ W, _) := fun W => logc_any W K hK a n c
  obtain ⟨S, hES⟩ : ∃ x, slotsN K = x := ⟨_, rfl⟩
  obtain ⟨L, hEL⟩ : ∃ x, cLog K = x := ⟨_, rfl⟩
  simp only [hES, hEL] at H1 H2 hst f1 f2 f3 f4 hS hk1 hk2 he ⊢
  have hm : (S : Int) * (L : Int) ≤ 40 := by rw [f1]; omega
  have hm0 : 0 ≤ (S : Int) * (L : Int) := by rw [f1]; omega
  have HE := he
  obtain ⟨h, z, b, r, rd, wr, s, p, q, t⟩ := K
  try simp only at *
  clear hK hsm hst f1 f2 f3 f4 hS hk1 hk2 hp8 he hES hEL
  go_enter Try.func76, Try.ntmps76
  go_wp2_with fail
  obtain ⟨w1, hw1⟩ : ∃ w1, w.alloc (laO h z b r rd wr s p q t (.slice a n c)) = w1 := ⟨_, rfl⟩
  have HB : Hid (w1.heap[w.heap.size]? = some (laO h z b r rd wr s p q t (.slice a n c))) := by show _ = _; rw [← hw1]; exact heap_alloc_new w _
  have HK : Hid (Chg no w w1) := by rw [← hw1]; exact (Chg.refl no w).alloc _
  rw [hw1]
  obtain ⟨g, hg⟩ : ∃ g, w.heap.size = g := ⟨_, rfl⟩
  rw [hg] at HB ⊢
  clear hw1 hg
  obtain ⟨pK, hpK⟩ : ∃ pK : World → Prop, ∀ w', pK w' ↔ Chg no w1 w' := ⟨_, fun _ => Iff.rfl⟩
  obtain ⟨x0, x1, x2, x3, x4, x5, x6, x7, x8, x9, x10, iK⟩ := la_facts hpK HB.out
  have HpK : Hid (∀ w', pK w' ↔ Chg no w1 w') := hpK
  have Y0 : Chg no w1 w1.drew := (Chg.refl no w1).drew
  clear hpK
  refine far.region_farM (fun κ w' => pK w') [1, 3] (by kernel_rfl) (by kernel_rfl) ((HpK.out _).2 Y0) ?_
  intro LP e1' e2' e3'
  refine far.farO_stretch pK 1 0 2 e1' e2' e3' (by kernel_rfl) (by kernel_rfl) (fun κ w' hk1 hk2 hC => hC) ?_
  simp only [List.take_succ_cons, List.take_zero, List.drop_succ_cons, List.drop_zero, Nat.reduceAdd]
  repeat (go_big_quiet_step (fail))
  refine wpQuiet_nil ?_
  refine far.farO_enter e1' e2' 0 rfl rfl 16 #[cfgV ⟨h, z, b, r, rd, wr, s, p, q, t⟩ (.slice a n c)] (by kernel_rfl) (by kernel_rfl) ?_
  refine (H1.out _).mono ?_
  rintro e w2 ⟨rfl, k1⟩
  have Y1 := Y0.then k1
  refine ⟨_, rfl, (HpK.out _).2 Y1, ?_⟩
  simp only [Act.put, List.setIfInBounds_toArray, List.set_cons_succ, List.set_cons_zero, Nat.reduceAdd]
  refine far.farO_stretch pK 1 0 2 e1' e2' e3' (by kernel_rfl) (by kernel_rfl) (fun κ w' hk1 hk2 hC => hC) ?_
  simp only [List.take_succ_cons, List.take_zero, List.drop_succ_cons, List.drop_zero, Nat.reduceAdd]
  repeat (go_big_quiet_step (fail))
  refine wpQuiet_nil ?_
  refine far.farO_enter e1' e2' 1 rfl rfl 64 #[cfgV ⟨h, z, b, r, rd, wr, s, p, q, t⟩ (.slice a n c)] (by kernel_rfl) (by kernel_rfl) ?_
  refine (H2.out _).mono ?_
  rintro e w3 ⟨rfl, k2⟩
  have Y2 := Y1.then k2
  refine ⟨_, rfl, (HpK.out _).2 Y2, ?_⟩
  simp only [Act.put, List.setIfInBounds_toArray, List.set_cons_succ, List.set_cons_zero, Nat.reduceAdd]
  refine far.farO_stretch pK 2 0 2 e1' e2' e3' (by kernel_rfl) (by kernel_rfl) (fun κ w' hk1 hk2 hC => hC) ?_
  simp only [List.take_succ_cons, List.take_zero, List.drop_succ_cons, List.drop_zero, Nat.reduceAdd]
  repeat (go_big_quiet_step (fail))
  refine wpQuiet_nil ?_
  refine far.farO_nil ?_
  go_wp2
  go_ret
  exact ⟨ret_int (by have := HE.out; omega), HK.out.then Y2⟩

theorem path_any (w : World) (K : Cf) (hK : okC K) (a : Option Addr) (n c : Nat) (j : Nat) (hj : j ≤ 2097152) : Calls Try.prog 77 #[cfgV K (.slice a n c), .int .i64 (j : Int)] w fun e w' => e = .returned (.int .i64 (2 * (j : Int) * ((K.h : Int) + 1))) ∧ Chg no w w' := by
  have hh := hK.h
  have hp : 2 * (j : Int) * ((K.h : Int) + 1) ≤ 29360128 ∧ 0 ≤ 2 * (j : Int) * ((K.h : Int) + 1) := by
    have e : 2 * (j : Int) * ((K.h : Int) + 1) = ((2 * j * (K.h + 1) : Nat) : Int) := by rw [Int.natCast_mul, Int.natCast_mul]; rfl
    have : 2 * j * (K.h + 1) ≤ 4194304 * 7 := Nat.mul_le_mul (by omega) (by omega)
    rw [e]
    omega
  obtain ⟨hp, hp'⟩ := hp
  have hhi : (K.h : Int) ≤ 6 := by omega
  have hji : (j : Int) ≤ 2097152 := by omega
  obtain ⟨h, z, b, r, rd, wr, s, p, q, t⟩ := K
  try simp only at *
  clear hK hh hj
  go_enter Try.func77, Try.ntmps77
  go_wp2
  go_ret
  exact ⟨rfl, (Chg.refl no w).alloc _⟩

theorem nth_any (w : World) (f i c : Nat) (hf : f ≤ 10000) (hi : i ≤ 10000) (hc : c ≤ 10000) (hm : i * c ≤ 10000) : Calls Try.prog 62 #[.int .i64 (f : Int), .int .i64 (i : Int), .int .i64 (c : Int)] w fun e w' => e = .returned (areaV (((f + i * c : Nat) : Int), (c : Int))) ∧ Chg no w w' := by
  have he : (i : Int) * (c : Int) = ((i * c : Nat) : Int) := by rw [Int.natCast_mul]
  obtain ⟨R, hR⟩ : ∃ R, i * c = R := ⟨_, rfl⟩
  rw [hR] at he hm ⊢
  have h1 : (f : Int) ≤ 10000 := by omega
  have h2 : (i : Int) ≤ 10000 := by omega
  have h3 : (c : Int) ≤ 10000 := by omega
  have h4 : (R : Int) ≤ 10000 := by omega
  obtain ⟨T, hT⟩ : ∃ T, f + R = T := ⟨_, rfl⟩
  have he2 : (f : Int) + (R : Int) = (T : Int) := by omega
  rw [hT]
  clear hR hf hi hc hm hT
  have hres : Try.f62.results = #[.cell 6 39] := by kernel_rfl
  go_enter Try.func62, Try.ntmps62
  go_wp2
  refine bodyPost_ret (v := areaV ((T : Int), (c : Int))) ?_ rfl ⟨rfl, (Chg.refl no w).alloc _⟩
  simp only [results, hres]
  go_simp

theorem turn_no (w : World) (K : Cf) (a : Option Addr) (n c : Nat) (i : Int) (hi : i < 0) : Calls Try.prog 69 #[cfgV K (.slice a n c), .int .i64 i] w fun e w' => e = .returned (.tuple #[.int .i64 0, .int .i64 0, .bool false]) ∧ Chg no w w' := by
  obtain ⟨h, z, b, r, rd, wr, s, p, q, t⟩ := K
  go_enter Try.func69, Try.ntmps69
  go_wp2
  go_ret3
  exact ⟨rfl, (Chg.refl no w).alloc _⟩

theorem turn_any (w : World) (K : Cf) (hK : okC K) (a : Option Addr) (n c : Nat) (i : Nat) (hib : (i : Int) ≤ 4611686018427387904) : Calls Try.prog 69 #[cfgV K (.slice a n c), .int .i64 (i : Int)] w fun e w' => e = .returned (.tuple #[.int .i64 ((i / K.p % 2 : Nat) : Int), .int .i64 ((i % K.p : Nat) : Int), .bool true]) ∧ Chg no w w' := by
  have hp := hK.p
  have hq : (i : Int).tdiv (K.p : Int) = ((i / K.p : Nat) : Int) := rfl
  have hr0 : (i : Int).tmod (K.p : Int) = ((i % K.p : Nat) : Int) := rfl
  have hr : ((i / K.p : Nat) : Int).tmod 2 = ((i / K.p % 2 : Nat) : Int) := rfl
  have hdle : i / K.p ≤ i := Nat.div_le_self _ _
  have hmod := Nat.mod_lt i (show K.p > 0 by omega)
  obtain ⟨d, hd⟩ : ∃ d, i / K.p = d := ⟨_, rfl⟩
  obtain ⟨m0, hm0⟩ : ∃ m, i % K.p = m := ⟨_, rfl⟩
  simp only [hd, hm0] at hq hr hr0 hdle hmod ⊢
  have hdI : (d : Int) ≤ 4611686018427387904 := by omega
  obtain ⟨m, hm⟩ : ∃ m, d % 2 = m := ⟨_, rfl⟩
  have hm2 : (m : Int) ≤ 1 := by omega
  rw [hm] at hr ⊢
  have hm0I : (m0 : Int) ≤ 8 := by omega
  have hi0 : ¬ (i : Int) < 0 := by omega
  have hp0 : (K.p : Int) ≠ 0 := by omega
  have hp1 : ¬ (K.p : Int) < 1 := by omega
  obtain ⟨h, z, b, r, rd, wr, s, p, q, t⟩ := K
  try simp only at *
  clear hK hd hm0 hm hp hdle hmod
  go_enter Try.func69, Try.ntmps69
  go_wp2_with fail
  go_quiet (fail)
  go_wp2
  go_ret3
  exact ⟨rfl, by first | exact ((Chg.refl no w).alloc _).drewN _ | exact (Chg.refl no w).alloc _⟩

end Go.Proofs.Ytfhpdcimdeilpaa.st
