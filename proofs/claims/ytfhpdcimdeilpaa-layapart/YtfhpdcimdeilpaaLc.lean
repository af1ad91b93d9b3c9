/- The program's areas: Log, Clog, Full, Delta, Check. -/
import Derived.Test.YtfhpdcimdeilpaaLb
namespace Go.Proofs.Ytfhpdcimdeilpaa.st
open Go.ChangeShapes Go.WideShapes Go.ChangeAt Go.RowKit Go.Proofs.Ytfhpdcimdeilpaa.hp
set_option linter.unusedVariables false
set_option linter.unusedSimpArgs false

/-- The box and the answer's cells. -/
structure Lb (w : World) (g g1 : Nat) (h z b r rd wr s p q t : Nat) (tv : Value) (W : World) : Prop where
  box : W.heap[g]? = some (laO h z b r rd wr s p q t tv)
  res : W.heap[g1]? = some (.cells #[.int .i64 0, .int .i64 0] 39 (0, 0))
  chg : Chg no w W
  lt : w.heap.size ≤ g ∧ g < g1

theorem Lb.made (w : World) (h z b r rd wr s p q t : Nat) (tv : Value) : Lb w w.heap.size (w.heap.size + 1) h z b r rd wr s p q t tv ((w.alloc (laO h z b r rd wr s p q t tv)).alloc (.cells #[.int .i64 0, .int .i64 0] 39)) := by
  refine ⟨((Chg.refl no _).alloc _).heap (heap_alloc_new w _) id, ?_, ((Chg.refl no w).alloc _).alloc _, by omega⟩
  have := heap_alloc_new (w.alloc (laO h z b r rd wr s p q t tv)) (.cells #[.int .i64 0, .int .i64 0] 39)
  simpa using this

section
variable {w W W' : World} {g g1 h z b r rd wr s p q t : Nat} {tv : Value}
theorem Lb.later (S : Lb w g g1 h z b r rd wr s p q t tv W) (k : Chg no W W') : Lb w g g1 h z b r rd wr s p q t tv W' := ⟨k.heap S.box id, k.heap S.res id, S.chg.then k, S.lt⟩

theorem Lb.cells (S : Lb w g g1 h z b r rd wr s p q t tv W) : W.cell? ⟨g1, 0, none⟩ = some (.int .i64 0) ∧ W.cell? ⟨g1, 1, none⟩ = some (.int .i64 0) ∧ W.frozen? ⟨g1, 0, none⟩ = false ∧ W.frozen? ⟨g1, 1, none⟩ = false :=
  ⟨(row_cell (xs := [_, _]) S.res 0 _ rfl).1, (row_cell (xs := [_, _]) S.res 1 _ rfl).1, (row_cell (xs := [_, _]) S.res 0 _ rfl).2, (row_cell (xs := [_, _]) S.res 1 _ rfl).2⟩

theorem Lb.stored (S : Lb w g g1 h z b r rd wr s p q t tv W) (u v : Int) : Chg no w ((W.setCell ⟨g1, 0, none⟩ (.int .i64 u)).setCell ⟨g1, 1, none⟩ (.int .i64 v)) ∧ ((W.setCell ⟨g1, 0, none⟩ (.int .i64 u)).setCell ⟨g1, 1, none⟩ (.int .i64 v)).cell? ⟨g1, 0, none⟩ = some (.int .i64 u) ∧ ((W.setCell ⟨g1, 0, none⟩ (.int .i64 u)).setCell ⟨g1, 1, none⟩ (.int .i64 v)).cell? ⟨g1, 1, none⟩ = some (.int .i64 v) := by
  have hl := S.lt
  have r0 := row_set (xs := [.int .i64 0, .int .i64 0]) (t := 39) S.res 0 (.int .i64 u)
  have r1 := row_set (xs := [.int .i64 u, .int .i64 0]) (t := 39) r0 1 (.int .i64 v)
  exact ⟨(S.chg.setCell _ _ (.inr (by show _ ≤ g1; omega))).setCell _ _ (.inr (by show _ ≤ g1; omega)), (row_cell (xs := [.int .i64 u, .int .i64 v]) r1 0 _ rfl).1, (row_cell (xs := [.int .i64 u, .int .i64 v]) r1 1 _ rfl).1⟩
end

theorem log_no (w : World) (K : Cf) (hK : okC K) (a : Option Addr) (n c : Nat) (i : Int) (hi : i < 0 ∨ (slotsN K : Int) ≤ i) : Calls Try.prog 28 #[cfgV K (.slice a n c), .int .i64 i] w fun e w' => e = .returned (areaV (0, 0)) ∧ Chg no w w' := by
  have HSl : Hid (∀ W, _) := fun W => slots_any W K hK a n c
  have HW : Hid (∀ W, Calls Try.prog 52 #[.int .i64 0, .int .i64 i, .int .i64 (((slotsN K : Nat) : Int) - 1)] W fun e w' => e = .returned (.bool false) ∧ w' = W) := fun W => within_f W (by omega)
  have hS := (slots_le hK).2.1
  obtain ⟨A, hA⟩ : ∃ A, slotsN K = A := ⟨_, rfl⟩
  simp only [hA] at hi HSl HW hS
  have hAi : (A : Int) ≤ 40 := by omega
  obtain ⟨h, z, b, r, rd, wr, s, p, q, t⟩ := K
  clear hK hA hS hi
  have hres : Try.f28.results = #[.cell 4 39] := by kernel_rfl
  go_enter Try.func28, Try.ntmps28
  go_wp2_with fail
  obtain ⟨w1, hw1⟩ : ∃ w1, (w.alloc (laO h z b r rd wr s p q t (.slice a n c))).alloc (.cells #[.int .i64 0, .int .i64 0] 39) = w1 := ⟨_, rfl⟩
  have HA : Hid (Lb w w.heap.size (w.heap.size + 1) h z b r rd wr s p q t (.slice a n c) w1) := by rw [← hw1]; exact Lb.made w _ _ _ _ _ _ _ _ _ _ _
  rw [hw1]
  obtain ⟨g, hg⟩ : ∃ g, w.heap.size = g := ⟨_, rfl⟩
  rw [hg] at HA ⊢
  obtain ⟨g1, hg1⟩ : ∃ g1, g + 1 = g1 := ⟨_, rfl⟩
  rw [hg1] at HA ⊢
  clear hw1 hg hg1
  refine (HSl.out _).mono ?_
  rintro e w2 ⟨rfl, k2⟩
  have HA2 : Hid (Lb w g g1 h z b r rd wr s p q t (.slice a n c) w2) := HA.out.later (k2)
  clear HA
  have HA : Hid (Lb w g g1 h z b r rd wr s p q t (.slice a n c) w2) := HA2.out
  clear HA2
  clear k2
  go_wp2_with fail
  refine (HW.out _).mono ?_
  rintro e w3 ⟨rfl, hw⟩
  subst hw
  obtain ⟨r0, r1, r2, r3⟩ := HA.out.cells
  go_wp2
  have hres : Try.f28.results = #[.cell 4 39] := by kernel_rfl
  obtain ⟨KZ, q0, q1⟩ := HA.out.stored 0 0
  refine bodyPost_ret (v := areaV (0, 0)) ?_ rfl ⟨rfl, KZ⟩
  obtain ⟨wz, hwz⟩ : ∃ wz, (w3.setCell ⟨g1, 0, none⟩ (.int .i64 0)).setCell ⟨g1, 1, none⟩ (.int .i64 0) = wz := ⟨_, rfl⟩
  rw [hwz] at q0 q1 ⊢
  clear hwz KZ
  simp only [results, hres]
  go_simp

theorem log_yes (w : World) (K : Cf) (hK : okC K) (a : Option Addr) (n c : Nat) (i : Nat) (hi : i < slotsN K) : Calls Try.prog 28 #[cfgV K (.slice a n c), .int .i64 i] w fun e w' => e = .returned (areaV (((2 + i * cLog K : Nat) : Int), (cLog K : Int))) ∧ Chg no w w' := by
  obtain ⟨_, hS, _⟩ := slots_le hK
  have hsm := (small hK).log
  have HSl : Hid (∀ W, _) := fun W => slots_any W K hK a n c
  have HW : Hid (∀ W, Calls Try.prog 52 #[.int .i64 0, .int .i64 (i : Int), .int .i64 (((slotsN K : Nat) : Int) - 1)] W fun e w' => e = .returned (.bool true) ∧ w' = W) := fun W => within_t W (by omega)
  have H0 : Hid (∀ W, _) := fun W => fst0_any W K a n c
  have HC : Hid (∀ W, _) := fun W => logc_any W K hK a n c
  have HN : Hid (∀ W, _) := fun W => nth_any W 2 i (cLog K) (by omega) (by omega) (by omega) (by rw [hsm]; omega)
  obtain ⟨A, hA⟩ : ∃ A, slotsN K = A := ⟨_, rfl⟩
  obtain ⟨L, hL⟩ : ∃ L, cLog K = L := ⟨_, rfl⟩
  simp only [hA, hL] at hi hS HSl HW HC HN ⊢
  obtain ⟨T, hT⟩ : ∃ T, 2 + i * L = T := ⟨_, rfl⟩
  simp only [hT] at HN ⊢
  have hAi : (A : Int) ≤ 40 := by omega
  obtain ⟨h, z, b, r, rd, wr, s, p, q, t⟩ := K
  clear hK hA hL hS hsm hi hT
  go_enter Try.func28, Try.ntmps28
  go_wp2_with fail
  obtain ⟨w1, hw1⟩ : ∃ w1, (w.alloc (laO h z b r rd wr s p q t (.slice a n c))).alloc (.cells #[.int .i64 0, .int .i64 0] 39) = w1 := ⟨_, rfl⟩
  have HA : Hid (Lb w w.heap.size (w.heap.size + 1) h z b r rd wr s p q t (.slice a n c) w1) := by rw [← hw1]; exact Lb.made w _ _ _ _ _ _ _ _ _ _ _
  rw [hw1]
  obtain ⟨g, hg⟩ : ∃ g, w.heap.size = g := ⟨_, rfl⟩
  rw [hg] at HA ⊢
  obtain ⟨g1, hg1⟩ : ∃ g1, g + 1 = g1 := ⟨_, rfl⟩
  rw [hg1] at HA ⊢
  clear hw1 hg hg1
  refine (HSl.out _).mono ?_
  rintro e w2 ⟨rfl, k2⟩
  have HA2 : Hid (Lb w g g1 h z b r rd wr s p q t (.slice a n c) w2) := HA.out.later (k2)
  clear HA
  have HA : Hid (Lb w g g1 h z b r rd wr s p q t (.slice a n c) w2) := HA2.out
  clear HA2
  clear k2
  go_wp2_with fail
  refine (HW.out _).mono ?_
  rintro e w3 ⟨rfl, hw⟩
  subst hw
  go_wp2_with fail
  obtain ⟨pK, hpK⟩ : ∃ pK : World → Prop, ∀ w', pK w' ↔ Chg no w3 w' := ⟨_, fun _ => Iff.rfl⟩
  obtain ⟨x0, x1, x2, x3, x4, x5, x6, x7, x8, x9, x10, iK⟩ := la_facts hpK HA.out.box
  have HpK : Hid (∀ w', pK w' ↔ Chg no w3 w') := hpK
  have Y0 : Chg no w3 w3.drew := (Chg.refl no w3).drew
  clear hpK
  refine far.region_farM (fun κ w' => κ ≤ 3 → pK w') [1, 4, 5, 6] (by kernel_rfl) (by kernel_rfl) (fun _ => (HpK.out _).2 Y0) ?_
  intro LP e1' e2' e3'
  refine far.farO_stretch pK 1 0 3 e1' e2' e3' (by kernel_rfl) (by kernel_rfl) (fun κ w' hk1 hk2 hC => hC hk2) ?_
  simp only [List.take_succ_cons, List.take_zero, List.drop_succ_cons, List.drop_zero, Nat.reduceAdd]
  repeat (go_big_quiet_step (fail))
  refine wpQuiet_nil ?_
  refine far.farO_enter e1' e2' 0 rfl rfl 63 #[cfgV ⟨h, z, b, r, rd, wr, s, p, q, t⟩ (.slice a n c)] (by kernel_rfl) (by kernel_rfl) ?_
  refine (H0.out _).mono ?_
  rintro e w4 ⟨rfl, k1⟩
  have Y1 := Y0.then k1
  refine ⟨_, rfl, fun _ => (HpK.out _).2 Y1, ?_⟩
  simp only [Act.put, List.setIfInBounds_toArray, List.set_cons_succ, List.set_cons_zero, Nat.reduceAdd]
  refine far.farO_stretch pK 2 0 3 e1' e2' e3' (by kernel_rfl) (by kernel_rfl) (fun κ w' hk1 hk2 hC => hC hk2) ?_
  simp only [List.take_succ_cons, List.take_zero, List.drop_succ_cons, List.drop_zero, Nat.reduceAdd]
  repeat (go_big_quiet_step (fail))
  refine wpQuiet_nil ?_
  refine far.farO_enter e1' e2' 1 rfl rfl 64 #[cfgV ⟨h, z, b, r, rd, wr, s, p, q, t⟩ (.slice a n c)] (by kernel_rfl) (by kernel_rfl) ?_
  refine (HC.out _).mono ?_
  rintro e w5 ⟨rfl, k2⟩
  have Y2 := Y1.then k2
  refine ⟨_, rfl, fun _ => (HpK.out _).2 Y2, ?_⟩
  simp only [Act.put, List.setIfInBounds_toArray, List.set_cons_succ, List.set_cons_zero, Nat.reduceAdd]
  refine far.farO_enter e1' e2' 2 rfl rfl 62 #[.int .i64 2, .int .i64 (i : Int), .int .i64 (L : Int)] (by kernel_rfl) (by kernel_rfl) ?_
  refine (HN.out _).mono ?_
  rintro e w6 ⟨rfl, k3⟩
  have Y3 := Y2.then k3
  refine ⟨_, rfl, fun _ => (HpK.out _).2 Y3, ?_⟩
  simp only [Act.put, List.setIfInBounds_toArray, List.set_cons_succ, List.set_cons_zero, Nat.reduceAdd]
  refine far.farO_move e1' e2' 3 rfl rfl (by kernel_rfl) ?_
  obtain ⟨d1, d2, d3, d4⟩ := (HA.out.later Y3).cells
  unfold far.Moves
  go_simp
  refine far.farO_nil ?_
  have HA2 : Hid (Lb w g g1 h z b r rd wr s p q t (.slice a n c) w6) := HA.out.later (Y3)
  clear HA
  have HA : Hid (Lb w g g1 h z b r rd wr s p q t (.slice a n c) w6) := HA2.out
  clear HA2
  go_wp2
  have hres : Try.f28.results = #[.cell 4 39] := by kernel_rfl
  obtain ⟨KZ, q0, q1⟩ := HA.out.stored (T : Int) (L : Int)
  refine bodyPost_ret (v := areaV ((T : Int), (L : Int))) ?_ rfl ⟨rfl, KZ⟩
  obtain ⟨wz, hwz⟩ : ∃ wz, (w6.setCell ⟨g1, 0, none⟩ (.int .i64 (T : Int))).setCell ⟨g1, 1, none⟩ (.int .i64 (L : Int)) = wz := ⟨_, rfl⟩
  rw [hwz] at q0 q1 ⊢
  clear hwz KZ
  simp only [results, hres]
  go_simp

theorem clog_no (w : World) (K : Cf) (a : Option Addr) (n c : Nat) (i : Int) (hi : i < 0) : Calls Try.prog 30 #[cfgV K (.slice a n c), .int .i64 i] w fun e w' => e = .returned (areaV (0, 0)) ∧ Chg no w w' := by
  obtain ⟨h, z, b, r, rd, wr, s, p, q, t⟩ := K
  have hres : Try.f30.results = #[.cell 4 39] := by kernel_rfl
  go_enter Try.func30, Try.ntmps30
  go_wp2
  refine bodyPost_ret (v := areaV (0, 0)) ?_ rfl ⟨rfl, (((Chg.refl no w).alloc _).alloc _)⟩
  simp only [results, hres]
  go_simp

theorem clog_yes (w : World) (K : Cf) (hK : okC K) (a : Option Addr) (n c : Nat) (i : Nat) : Calls Try.prog 30 #[cfgV K (.slice a n c), .int .i64 i] w fun e w' => e = .returned (areaV (((st1 K + i % 2 * cClog K : Nat) : Int), (cClog K : Int))) ∧ Chg no w w' := by
  have hsm := (small hK).clog
  have hst := st_le hK
  have hr : (i : Int).tmod 2 = ((i % 2 : Nat) : Int) := rfl
  obtain ⟨m, hm⟩ : ∃ m, i % 2 = m := ⟨_, rfl⟩
  have hm2 : m ≤ 1 := by omega
  have hmL : m * cClog K ≤ 9 := by
    have := Nat.mul_le_mul hm2 hsm.2
    omega
  have H0 : Hid (∀ W, _) := fun W => fst1_any W K hK a n c
  have HC : Hid (∀ W, _) := fun W => clogc_any W K hK a n c
  have HN : Hid (∀ W, _) := fun W => nth_any W (st1 K) m (cClog K) (by omega) (by omega) (by omega) (by omega)
  rw [hm] at hr ⊢
  obtain ⟨L, hL⟩ : ∃ L, cClog K = L := ⟨_, rfl⟩
  obtain ⟨F, hF⟩ : ∃ L, st1 K = L := ⟨_, rfl⟩
  simp only [hL, hF] at H0 HC HN ⊢
  obtain ⟨T, hT⟩ : ∃ T, F + m * L = T := ⟨_, rfl⟩
  simp only [hT] at HN ⊢
  have hi0 : ¬ (i : Int) < 0 := by omega
  have hmi : (m : Int) ≤ 1 := by omega
  obtain ⟨h, z, b, r, rd, wr, s, p, q, t⟩ := K
  clear hK hL hF hst hsm hm hm2 hmL hT
  go_enter Try.func30, Try.ntmps30
  go_wp2_with fail
  obtain ⟨w1, hw1⟩ : ∃ w1, (w.alloc (laO h z b r rd wr s p q t (.slice a n c))).alloc (.cells #[.int .i64 0, .int .i64 0] 39) = w1 := ⟨_, rfl⟩
  have HA : Hid (Lb w w.heap.size (w.heap.size + 1) h z b r rd wr s p q t (.slice a n c) w1) := by rw [← hw1]; exact Lb.made w _ _ _ _ _ _ _ _ _ _ _
  rw [hw1]
  obtain ⟨g, hg⟩ : ∃ g, w.heap.size = g := ⟨_, rfl⟩
  rw [hg] at HA ⊢
  obtain ⟨g1, hg1⟩ : ∃ g1, g + 1 = g1 := ⟨_, rfl⟩
  rw [hg1] at HA ⊢
  clear hw1 hg hg1
  obtain ⟨pK, hpK⟩ : ∃ pK : World → Prop, ∀ w', pK w' ↔ Chg no w1 w' := ⟨_, fun _ => Iff.rfl⟩
  obtain ⟨x0, x1, x2, x3, x4, x5, x6, x7, x8, x9, x10, iK⟩ := la_facts hpK HA.out.box
  have HpK : Hid (∀ w', pK w' ↔ Chg no w1 w') := hpK
  have Y0 : Chg no w1 w1.drew := (Chg.refl no w1).drew
  clear hpK
  refine far.region_farM (fun κ w' => κ ≤ 3 → pK w') [1, 5, 6, 7] (by kernel_rfl) (by kernel_rfl) (fun _ => (HpK.out _).2 Y0) ?_
  intro LP e1' e2' e3'
  refine far.farO_stretch pK 1 0 3 e1' e2' e3' (by kernel_rfl) (by kernel_rfl) (fun κ w' hk1 hk2 hC => hC hk2) ?_
  simp only [List.take_succ_cons, List.take_zero, List.drop_succ_cons, List.drop_zero, Nat.reduceAdd]
  repeat (go_big_quiet_step (fail))
  refine wpQuiet_nil ?_
  refine far.farO_enter e1' e2' 0 rfl rfl 67 #[cfgV ⟨h, z, b, r, rd, wr, s, p, q, t⟩ (.slice a n c)] (by kernel_rfl) (by kernel_rfl) ?_
  refine (H0.out _).mono ?_
  rintro e w4 ⟨rfl, k1⟩
  have Y1 := Y0.then k1
  refine ⟨_, rfl, fun _ => (HpK.out _).2 Y1, ?_⟩
  simp only [Act.put, List.setIfInBounds_toArray, List.set_cons_succ, List.set_cons_zero, Nat.reduceAdd]
  refine far.farO_stretch pK 3 0 3 e1' e2' e3' (by kernel_rfl) (by kernel_rfl) (fun κ w' hk1 hk2 hC => hC hk2) ?_
  simp only [List.take_succ_cons, List.take_zero, List.drop_succ_cons, List.drop_zero, Nat.reduceAdd]
  repeat (go_big_quiet_step (fail))
  refine wpQuiet_nil ?_
  refine far.farO_enter e1' e2' 1 rfl rfl 68 #[cfgV ⟨h, z, b, r, rd, wr, s, p, q, t⟩ (.slice a n c)] (by kernel_rfl) (by kernel_rfl) ?_
  refine (HC.out _).mono ?_
  rintro e w5 ⟨rfl, k2⟩
  have Y2 := Y1.then k2
  refine ⟨_, rfl, fun _ => (HpK.out _).2 Y2, ?_⟩
  simp only [Act.put, List.setIfInBounds_toArray, List.set_cons_succ, List.set_cons_zero, Nat.reduceAdd]
  refine far.farO_enter e1' e2' 2 rfl rfl 62 #[.int .i64 (F : Int), .int .i64 (m : Int), .int .i64 (L : Int)] (by kernel_rfl) (by kernel_rfl) ?_
  refine (HN.out _).mono ?_
  rintro e w6 ⟨rfl, k3⟩
  have Y3 := Y2.then k3
  refine ⟨_, rfl, fun _ => (HpK.out _).2 Y3, ?_⟩
  simp only [Act.put, List.setIfInBounds_toArray, List.set_cons_succ, List.set_cons_zero, Nat.reduceAdd]
  refine far.farO_move e1' e2' 3 rfl rfl (by kernel_rfl) ?_
  obtain ⟨d1, d2, d3, d4⟩ := (HA.out.later Y3).cells
  unfold far.Moves
  go_simp
  refine far.farO_nil ?_
  have HA2 : Hid (Lb w g g1 h z b r rd wr s p q t (.slice a n c) w6) := HA.out.later (Y3)
  clear HA
  have HA : Hid (Lb w g g1 h z b r rd wr s p q t (.slice a n c) w6) := HA2.out
  clear HA2
  go_wp2
  have hres : Try.f30.results = #[.cell 4 39] := by kernel_rfl
  obtain ⟨KZ, q0, q1⟩ := HA.out.stored (T : Int) (L : Int)
  refine bodyPost_ret (v := areaV ((T : Int), (L : Int))) ?_ rfl ⟨rfl, KZ⟩
  obtain ⟨wz, hwz⟩ : ∃ wz, (w6.setCell ⟨g1, 0, none⟩ (.int .i64 (T : Int))).setCell ⟨g1, 1, none⟩ (.int .i64 (L : Int)) = wz := ⟨_, rfl⟩
  rw [hwz] at q0 q1 ⊢
  clear hwz KZ
  simp only [results, hres]
  go_simp

theorem full_no (w : World) (K : Cf) (a : Option Addr) (n c : Nat) (i : Int) (hi : i < 0) : Calls Try.prog 34 #[cfgV K (.slice a n c), .int .i64 i] w fun e w' => e = .returned (areaV (0, 0)) ∧ Chg no w w' := by
  have HT : Hid (∀ W, _) := fun W => turn_no W K a n c i hi
  obtain ⟨h, z, b, r, rd, wr, s, p, q, t⟩ := K
  go_enter Try.func34, Try.ntmps34
  go_wp2_with fail
  obtain ⟨w1, hw1⟩ : ∃ w1, (w.alloc (laO h z b r rd wr s p q t (.slice a n c))).alloc (.cells #[.int .i64 0, .int .i64 0] 39) = w1 := ⟨_, rfl⟩
  have HA : Hid (Lb w w.heap.size (w.heap.size + 1) h z b r rd wr s p q t (.slice a n c) w1) := by rw [← hw1]; exact Lb.made w _ _ _ _ _ _ _ _ _ _ _
  rw [hw1]
  obtain ⟨g, hg⟩ : ∃ g, w.heap.size = g := ⟨_, rfl⟩
  rw [hg] at HA ⊢
  obtain ⟨g1, hg1⟩ : ∃ g1, g + 1 = g1 := ⟨_, rfl⟩
  rw [hg1] at HA ⊢
  clear hw1 hg hg1
  refine (HT.out _).mono ?_
  rintro e w2 ⟨rfl, k2⟩
  have HA2 : Hid (Lb w g g1 h z b r rd wr s p q t (.slice a n c) w2) := HA.out.later (k2)
  clear HA
  have HA : Hid (Lb w g g1 h z b r rd wr s p q t (.slice a n c) w2) := HA2.out
  clear HA2
  clear k2
  obtain ⟨r0, r1, r2, r3⟩ := HA.out.cells
  go_wp2
  have hres : Try.f34.results = #[.cell 4 39] := by kernel_rfl
  obtain ⟨KZ, q0, q1⟩ := HA.out.stored 0 0
  refine bodyPost_ret (v := areaV (0, 0)) ?_ rfl ⟨rfl, KZ⟩
  obtain ⟨wz, hwz⟩ : ∃ wz, (w2.setCell ⟨g1, 0, none⟩ (.int .i64 0)).setCell ⟨g1, 1, none⟩ (.int .i64 0) = wz := ⟨_, rfl⟩
  rw [hwz] at q0 q1 ⊢
  clear hwz KZ
  simp only [results, hres]
  go_simp

theorem full_yes (w : World) (K : Cf) (hK : okC K) (a : Option Addr) (n c : Nat) (i : Nat) (hib : (i : Int) ≤ 4611686018427387904) : Calls Try.prog 34 #[cfgV K (.slice a n c), .int .i64 i] w fun e w' => e = .returned (areaV (((st3 K + i / K.p % 2 * cFull K : Nat) : Int), (cFull K : Int))) ∧ Chg no w w' := by
  have hsm := (small hK).full
  have hst := st_le hK
  have HT : Hid (∀ W, _) := fun W => turn_any W K hK a n c i hib
  obtain ⟨m, hm⟩ : ∃ m, i / K.p % 2 = m := ⟨_, rfl⟩
  obtain ⟨m0, hm0⟩ : ∃ m, i % K.p = m := ⟨_, rfl⟩
  have hm2 : m ≤ 1 := by omega
  have hmL : m * cFull K ≤ 92 := by
    have := Nat.mul_le_mul hm2 hsm.2
    omega
  have H0 : Hid (∀ W, _) := fun W => fst3_any W K hK a n c
  have HC : Hid (∀ W, _) := fun W => fullc_any W K hK a n c
  have HN : Hid (∀ W, _) := fun W => nth_any W (st3 K) m (cFull K) (by omega) (by omega) (by omega) (by omega)
  obtain ⟨L, hL⟩ : ∃ L, cFull K = L := ⟨_, rfl⟩
  obtain ⟨F, hF⟩ : ∃ L, st3 K = L := ⟨_, rfl⟩
  simp only [hL, hF, hm, hm0] at HT H0 HC HN ⊢
  obtain ⟨T, hT⟩ : ∃ T, F + m * L = T := ⟨_, rfl⟩
  simp only [hT] at HN ⊢
  have hmi : (m : Int) ≤ 1 := by omega
  obtain ⟨h, z, b, r, rd, wr, s, p, q, t⟩ := K
  clear hK hL hF hst hsm hm hm2 hm0 hmL hT hib
  go_enter Try.func34, Try.ntmps34
  go_wp2_with fail
  obtain ⟨w1, hw1⟩ : ∃ w1, (w.alloc (laO h z b r rd wr s p q t (.slice a n c))).alloc (.cells #[.int .i64 0, .int .i64 0] 39) = w1 := ⟨_, rfl⟩
  have HA : Hid (Lb w w.heap.size (w.heap.size + 1) h z b r rd wr s p q t (.slice a n c) w1) := by rw [← hw1]; exact Lb.made w _ _ _ _ _ _ _ _ _ _ _
  rw [hw1]
  obtain ⟨g, hg⟩ : ∃ g, w.heap.size = g := ⟨_, rfl⟩
  rw [hg] at HA ⊢
  obtain ⟨g1, hg1⟩ : ∃ g1, g + 1 = g1 := ⟨_, rfl⟩
  rw [hg1] at HA ⊢
  clear hw1 hg hg1
  refine (HT.out _).mono ?_
  rintro e w2 ⟨rfl, k2⟩
  have HA2 : Hid (Lb w g g1 h z b r rd wr s p q t (.slice a n c) w2) := HA.out.later (k2)
  clear HA
  have HA : Hid (Lb w g g1 h z b r rd wr s p q t (.slice a n c) w2) := HA2.out
  clear HA2
  clear k2
  go_wp2_with fail
  obtain ⟨pK, hpK⟩ : ∃ pK : World → Prop, ∀ w', pK w' ↔ Chg no w2 w' := ⟨_, fun _ => Iff.rfl⟩
  obtain ⟨x0, x1, x2, x3, x4, x5, x6, x7, x8, x9, x10, iK⟩ := la_facts hpK HA.out.box
  have HpK : Hid (∀ w', pK w' ↔ Chg no w2 w') := hpK
  have Y0 : Chg no w2 w2.drew := (Chg.refl no w2).drew
  clear hpK
  refine far.region_farM (fun κ w' => κ ≤ 3 → pK w') [1, 4, 5, 6] (by kernel_rfl) (by kernel_rfl) (fun _ => (HpK.out _).2 Y0) ?_
  intro LP e1' e2' e3'
  refine far.farO_stretch pK 1 0 3 e1' e2' e3' (by kernel_rfl) (by kernel_rfl) (fun κ w' hk1 hk2 hC => hC hk2) ?_
  simp only [List.take_succ_cons, List.take_zero, List.drop_succ_cons, List.drop_zero, Nat.reduceAdd]
  repeat (go_big_quiet_step (fail))
  refine wpQuiet_nil ?_
  refine far.farO_enter e1' e2' 0 rfl rfl 72 #[cfgV ⟨h, z, b, r, rd, wr, s, p, q, t⟩ (.slice a n c)] (by kernel_rfl) (by kernel_rfl) ?_
  refine (H0.out _).mono ?_
  rintro e w4 ⟨rfl, k1⟩
  have Y1 := Y0.then k1
  refine ⟨_, rfl, fun _ => (HpK.out _).2 Y1, ?_⟩
  simp only [Act.put, List.setIfInBounds_toArray, List.set_cons_succ, List.set_cons_zero, Nat.reduceAdd]
  refine far.farO_stretch pK 2 0 3 e1' e2' e3' (by kernel_rfl) (by kernel_rfl) (fun κ w' hk1 hk2 hC => hC hk2) ?_
  simp only [List.take_succ_cons, List.take_zero, List.drop_succ_cons, List.drop_zero, Nat.reduceAdd]
  repeat (go_big_quiet_step (fail))
  refine wpQuiet_nil ?_
  refine far.farO_enter e1' e2' 1 rfl rfl 73 #[cfgV ⟨h, z, b, r, rd, wr, s, p, q, t⟩ (.slice a n c)] (by kernel_rfl) (by kernel_rfl) ?_
  refine (HC.out _).mono ?_
  rintro e w5 ⟨rfl, k2⟩
  have Y2 := Y1.then k2
  refine ⟨_, rfl, fun _ => (HpK.out _).2 Y2, ?_⟩
  simp only [Act.put, List.setIfInBounds_toArray, List.set_cons_succ, List.set_cons_zero, Nat.reduceAdd]
  refine far.farO_enter e1' e2' 2 rfl rfl 62 #[.int .i64 (F : Int), .int .i64 (m : Int), .int .i64 (L : Int)] (by kernel_rfl) (by kernel_rfl) ?_
  refine (HN.out _).mono ?_
  rintro e w6 ⟨rfl, k3⟩
  have Y3 := Y2.then k3
  refine ⟨_, rfl, fun _ => (HpK.out _).2 Y3, ?_⟩
  simp only [Act.put, List.setIfInBounds_toArray, List.set_cons_succ, List.set_cons_zero, Nat.reduceAdd]
  refine far.farO_move e1' e2' 3 rfl rfl (by kernel_rfl) ?_
  obtain ⟨d1, d2, d3, d4⟩ := (HA.out.later Y3).cells
  unfold far.Moves
  go_simp
  refine far.farO_nil ?_
  have HA2 : Hid (Lb w g g1 h z b r rd wr s p q t (.slice a n c) w6) := HA.out.later (Y3)
  clear HA
  have HA : Hid (Lb w g g1 h z b r rd wr s p q t (.slice a n c) w6) := HA2.out
  clear HA2
  go_wp2
  have hres : Try.f34.results = #[.cell 4 39] := by kernel_rfl
  obtain ⟨KZ, q0, q1⟩ := HA.out.stored (T : Int) (L : Int)
  refine bodyPost_ret (v := areaV ((T : Int), (L : Int))) ?_ rfl ⟨rfl, KZ⟩
  obtain ⟨wz, hwz⟩ : ∃ wz, (w6.setCell ⟨g1, 0, none⟩ (.int .i64 (T : Int))).setCell ⟨g1, 1, none⟩ (.int .i64 (L : Int)) = wz := ⟨_, rfl⟩
  rw [hwz] at q0 q1 ⊢
  clear hwz KZ
  simp only [results, hres]
  go_simp

theorem delta_no (w : World) (K : Cf) (hK : okC K) (a : Option Addr) (n c : Nat) (i : Int) (hib : i ≤ 4611686018427387904) (hi : i < 0 ∨ ∃ k : Nat, i = k ∧ k % K.p = 0) : Calls Try.prog 32 #[cfgV K (.slice a n c), .int .i64 i] w fun e w' => e = .returned (areaV (0, 0)) ∧ Chg no w w' := by
  have HT : Hid (∃ (x : Int) (B : Bool), ∀ W, Calls Try.prog 69 #[cfgV K (.slice a n c), .int .i64 i] W fun e w' => e = .returned (.tuple #[.int .i64 x, .int .i64 0, .bool B]) ∧ Chg no W w') := by
    rcases hi with hi | ⟨k, rfl, hk⟩
    · exact ⟨0, false, fun W => turn_no W K a n c i hi⟩
    · exact ⟨_, true, fun W => by
        have := turn_any W K hK a n c k hib
        rw [hk] at this
        exact this⟩
  obtain ⟨x, B, HT⟩ := HT.out
  have HT : Hid (∀ W, Calls Try.prog 69 #[cfgV K (.slice a n c), .int .i64 i] W fun e w' => e = .returned (.tuple #[.int .i64 x, .int .i64 0, .bool B]) ∧ Chg no W w') := HT
  obtain ⟨h, z, b, r, rd, wr, s, p, q, t⟩ := K
  clear hK hi
  cases B
  all_goals
    go_enter Try.func32, Try.ntmps32
    go_wp2_with fail
    obtain ⟨w1, hw1⟩ : ∃ w1, (w.alloc (laO h z b r rd wr s p q t (.slice a n c))).alloc (.cells #[.int .i64 0, .int .i64 0] 39) = w1 := ⟨_, rfl⟩
    have HA : Hid (Lb w w.heap.size (w.heap.size + 1) h z b r rd wr s p q t (.slice a n c) w1) := by rw [← hw1]; exact Lb.made w _ _ _ _ _ _ _ _ _ _ _
    rw [hw1]
    obtain ⟨g, hg⟩ : ∃ g, w.heap.size = g := ⟨_, rfl⟩
    rw [hg] at HA ⊢
    obtain ⟨g1, hg1⟩ : ∃ g1, g + 1 = g1 := ⟨_, rfl⟩
    rw [hg1] at HA ⊢
    clear hw1 hg hg1
    refine (HT.out _).mono ?_
    rintro e w2 ⟨rfl, k2⟩
    have HA2 : Hid (Lb w g g1 h z b r rd wr s p q t (.slice a n c) w2) := HA.out.later (k2)
    clear HA
    have HA : Hid (Lb w g g1 h z b r rd wr s p q t (.slice a n c) w2) := HA2.out
    clear HA2
    clear k2
    obtain ⟨r0, r1, r2, r3⟩ := HA.out.cells
    go_wp2
    have hres : Try.f32.results = #[.cell 4 39] := by kernel_rfl
    obtain ⟨KZ, q0, q1⟩ := HA.out.stored 0 0
    refine bodyPost_ret (v := areaV (0, 0)) ?_ rfl ⟨rfl, KZ⟩
    obtain ⟨wz, hwz⟩ : ∃ wz, (w2.setCell ⟨g1, 0, none⟩ (.int .i64 0)).setCell ⟨g1, 1, none⟩ (.int .i64 0) = wz := ⟨_, rfl⟩
    rw [hwz] at q0 q1 ⊢
    clear hwz KZ
    simp only [results, hres]
    go_simp

theorem delta_yes (w : World) (K : Cf) (hK : okC K) (a : Option Addr) (n c : Nat) (i : Nat) (hi : i % K.p ≠ 0) (hib : (i : Int) ≤ 4611686018427387904) : Calls Try.prog 32 #[cfgV K (.slice a n c), .int .i64 i] w fun e w' => e = .returned (areaV (((dAt K i : Nat) : Int), (cDelta K : Int))) ∧ Chg no w w' := by
  unfold dAt
  have hsm := (small hK).delta
  have hst := st_le hK
  have hp := hK.p
  have HT : Hid (∀ W, _) := fun W => turn_any W K hK a n c i hib
  have hmod := Nat.mod_lt i (show K.p > 0 by omega)
  obtain ⟨m, hm⟩ : ∃ m, i / K.p % 2 = m := ⟨_, rfl⟩
  obtain ⟨m0, hm0⟩ : ∃ m, i % K.p = m := ⟨_, rfl⟩
  have hm2 : m ≤ 1 := by omega
  rw [hm0] at hmod hi
  have hA : m * (K.p - 1) ≤ 7 := by
    have := Nat.mul_le_mul hm2 (show K.p - 1 ≤ 7 by omega)
    omega
  have hAi : (m : Int) * ((K.p : Int) - 1) = ((m * (K.p - 1) : Nat) : Int) := by rw [Int.natCast_mul, Int.ofNat_sub hp.1]; rfl
  have hBL : (m * (K.p - 1) + m0 - 1) * cDelta K ≤ 14 * 75 := Nat.mul_le_mul (by omega) hsm.2
  have H0 : Hid (∀ W, _) := fun W => fst2_any W K hK a n c
  have HC : Hid (∀ W, _) := fun W => deltac_any W K hK a n c
  have HN : Hid (∀ W, _) := fun W => nth_any W (st2 K) (m * (K.p - 1) + m0 - 1) (cDelta K) (by omega) (by omega) (by omega) (by omega)
  obtain ⟨L, hL⟩ : ∃ L, cDelta K = L := ⟨_, rfl⟩
  obtain ⟨F, hF⟩ : ∃ L, st2 K = L := ⟨_, rfl⟩
  simp only [hL, hF, hm, hm0] at HT H0 HC HN ⊢
  obtain ⟨A, hA'⟩ : ∃ A, m * (K.p - 1) = A := ⟨_, rfl⟩
  simp only [hA'] at hA hAi HN ⊢
  obtain ⟨B, hB⟩ : ∃ B, A + m0 - 1 = B := ⟨_, rfl⟩
  have hBi : (A : Int) + (m0 : Int) - 1 = (B : Int) := by omega
  simp only [hB] at HN ⊢
  obtain ⟨T, hT⟩ : ∃ T, F + B * L = T := ⟨_, rfl⟩
  simp only [hT] at HN ⊢
  have hmi : (m : Int) ≤ 1 := by omega
  have hA2 : (A : Int) ≤ 7 := by omega
  have hm02 : (m0 : Int) ≤ 8 := by omega
  have hp1 : 1 ≤ (K.p : Int) := by omega
  have hp8 : (K.p : Int) ≤ 8 := by omega
  have hm0n : ¬ (m0 : Int) = 0 := by omega
  have hB2 : (B : Int) ≤ 14 := by omega
  have hm0e : ((m0 : Int) == 0) = false := by simpa using hm0n
  obtain ⟨h, z, b, r, rd, wr, s, p, q, t⟩ := K
  try simp only at *
  clear hK hL hF hst hsm hm hm2 hm0 hT hib hA' hB hBL hA hi hmod hp
  go_enter Try.func32, Try.ntmps32
  go_wp2_with fail
  obtain ⟨w1, hw1⟩ : ∃ w1, (w.alloc (laO h z b r rd wr s p q t (.slice a n c))).alloc (.cells #[.int .i64 0, .int .i64 0] 39) = w1 := ⟨_, rfl⟩
  have HA : Hid (Lb w w.heap.size (w.heap.size + 1) h z b r rd wr s p q t (.slice a n c) w1) := by rw [← hw1]; exact Lb.made w _ _ _ _ _ _ _ _ _ _ _
  rw [hw1]
  obtain ⟨g, hg⟩ : ∃ g, w.heap.size = g := ⟨_, rfl⟩
  rw [hg] at HA ⊢
  obtain ⟨g1, hg1⟩ : ∃ g1, g + 1 = g1 := ⟨_, rfl⟩
  rw [hg1] at HA ⊢
  clear hw1 hg hg1
  refine (HT.out _).mono ?_
  rintro e w2 ⟨rfl, k2⟩
  have HA2 : Hid (Lb w g g1 h z b r rd wr s p q t (.slice a n c) w2) := HA.out.later (k2)
  clear HA
  have HA : Hid (Lb w g g1 h z b r rd wr s p q t (.slice a n c) w2) := HA2.out
  clear HA2
  clear k2
  go_wp2_with fail
  obtain ⟨pK, hpK⟩ : ∃ pK : World → Prop, ∀ w', pK w' ↔ Chg no w2 w' := ⟨_, fun _ => Iff.rfl⟩
  obtain ⟨x0, x1, x2, x3, x4, x5, x6, x7, x8, x9, x10, iK⟩ := la_facts hpK HA.out.box
  have HpK : Hid (∀ w', pK w' ↔ Chg no w2 w') := hpK
  have Y0 : Chg no w2 w2.drew := (Chg.refl no w2).drew
  clear hpK
  refine far.region_farM (fun κ w' => κ ≤ 3 → pK w') [1, 12, 13, 14] (by kernel_rfl) (by kernel_rfl) (fun _ => (HpK.out _).2 Y0) ?_
  intro LP e1' e2' e3'
  refine far.farO_stretch pK 1 0 3 e1' e2' e3' (by kernel_rfl) (by kernel_rfl) (fun κ w' hk1 hk2 hC => hC hk2) ?_
  simp only [List.take_succ_cons, List.take_zero, List.drop_succ_cons, List.drop_zero, Nat.reduceAdd]
  repeat (go_big_quiet_step (fail))
  refine wpQuiet_nil ?_
  refine far.farO_enter e1' e2' 0 rfl rfl 70 #[cfgV ⟨h, z, b, r, rd, wr, s, p, q, t⟩ (.slice a n c)] (by kernel_rfl) (by kernel_rfl) ?_
  refine (H0.out _).mono ?_
  rintro e w4 ⟨rfl, k1⟩
  have Y1 := Y0.then k1
  refine ⟨_, rfl, fun _ => (HpK.out _).2 Y1, ?_⟩
  simp only [Act.put, List.setIfInBounds_toArray, List.set_cons_succ, List.set_cons_zero, Nat.reduceAdd]
  refine far.farO_stretch pK 10 0 3 e1' e2' e3' (by kernel_rfl) (by kernel_rfl) (fun κ w' hk1 hk2 hC => hC hk2) ?_
  simp only [List.take_succ_cons, List.take_zero, List.drop_succ_cons, List.drop_zero, Nat.reduceAdd]
  repeat (go_big_quiet_step (fail))
  refine wpQuiet_nil ?_
  refine far.farO_enter e1' e2' 1 rfl rfl 71 #[cfgV ⟨h, z, b, r, rd, wr, s, p, q, t⟩ (.slice a n c)] (by kernel_rfl) (by kernel_rfl) ?_
  refine (HC.out _).mono ?_
  rintro e w5 ⟨rfl, k2⟩
  have Y2 := Y1.then k2
  refine ⟨_, rfl, fun _ => (HpK.out _).2 Y2, ?_⟩
  simp only [Act.put, List.setIfInBounds_toArray, List.set_cons_succ, List.set_cons_zero, Nat.reduceAdd]
  refine far.farO_enter e1' e2' 2 rfl rfl 62 #[.int .i64 (F : Int), .int .i64 (B : Int), .int .i64 (L : Int)] (by kernel_rfl) (by kernel_rfl) ?_
  refine (HN.out _).mono ?_
  rintro e w6 ⟨rfl, k3⟩
  have Y3 := Y2.then k3
  refine ⟨_, rfl, fun _ => (HpK.out _).2 Y3, ?_⟩
  simp only [Act.put, List.setIfInBounds_toArray, List.set_cons_succ, List.set_cons_zero, Nat.reduceAdd]
  refine far.farO_move e1' e2' 3 rfl rfl (by kernel_rfl) ?_
  obtain ⟨d1, d2, d3, d4⟩ := (HA.out.later Y3).cells
  unfold far.Moves
  go_simp
  refine far.farO_nil ?_
  have HA2 : Hid (Lb w g g1 h z b r rd wr s p q t (.slice a n c) w6) := HA.out.later (Y3)
  clear HA
  have HA : Hid (Lb w g g1 h z b r rd wr s p q t (.slice a n c) w6) := HA2.out
  clear HA2
  go_wp2
  have hres : Try.f32.results = #[.cell 4 39] := by kernel_rfl
  obtain ⟨KZ, q0, q1⟩ := HA.out.stored (T : Int) (L : Int)
  refine bodyPost_ret (v := areaV ((T : Int), (L : Int))) ?_ rfl ⟨rfl, KZ⟩
  obtain ⟨wz, hwz⟩ : ∃ wz, (w6.setCell ⟨g1, 0, none⟩ (.int .i64 (T : Int))).setCell ⟨g1, 1, none⟩ (.int .i64 (L : Int)) = wz := ⟨_, rfl⟩
  rw [hwz] at q0 q1 ⊢
  clear hwz KZ
  simp only [results, hres]
  go_simp

section
variable (w : World) (K : Cf) (hK : okC K) (a : Option Addr) (n c : Nat)
include hK

theorem logA_any (i : Int) : Calls Try.prog 28 #[cfgV K (.slice a n c), .int .i64 i] w fun e w' => e = .returned (areaV (logA K i)) ∧ Chg no w w' := by
  unfold logA
  by_cases h : 0 ≤ i ∧ i < (slotsN K : Int)
  · rw [if_pos h]
    obtain ⟨k, rfl⟩ : ∃ k : Nat, i = k := ⟨i.toNat, by omega⟩
    rw [Int.toNat_natCast]
    exact log_yes w K hK a n c k (by omega)
  · rw [if_neg h]
    exact log_no w K hK a n c i (by omega)

theorem clogA_any (i : Int) : Calls Try.prog 30 #[cfgV K (.slice a n c), .int .i64 i] w fun e w' => e = .returned (areaV (clogA K i)) ∧ Chg no w w' := by
  unfold clogA
  by_cases h : 0 ≤ i
  · rw [if_pos h]
    obtain ⟨k, rfl⟩ : ∃ k : Nat, i = k := ⟨i.toNat, by omega⟩
    rw [Int.toNat_natCast]
    exact clog_yes w K hK a n c k
  · rw [if_neg h]
    exact clog_no w K a n c i (by omega)

theorem deltaA_any (i : Int) (hi : i ≤ 4611686018427387904) : Calls Try.prog 32 #[cfgV K (.slice a n c), .int .i64 i] w fun e w' => e = .returned (areaV (deltaA K i)) ∧ Chg no w w' := by
  unfold deltaA
  by_cases h0 : 0 ≤ i
  · obtain ⟨k, rfl⟩ : ∃ k : Nat, i = k := ⟨i.toNat, by omega⟩
    rw [Int.toNat_natCast]
    by_cases h : k % K.p = 0
    · rw [if_neg (fun hh => hh.2 h)]
      exact delta_no w K hK a n c k hi (.inr ⟨k, rfl, h⟩)
    · rw [if_pos ⟨h0, h⟩]
      exact delta_yes w K hK a n c k h hi
  · rw [if_neg (fun hh => h0 hh.1)]
    exact delta_no w K hK a n c i hi (.inl (by omega))

theorem fullA_any (i : Int) (hi : i ≤ 4611686018427387904) : Calls Try.prog 34 #[cfgV K (.slice a n c), .int .i64 i] w fun e w' => e = .returned (areaV (fullA K i)) ∧ Chg no w w' := by
  unfold fullA
  by_cases h : 0 ≤ i
  · rw [if_pos h]
    obtain ⟨k, rfl⟩ : ∃ k : Nat, i = k := ⟨i.toNat, by omega⟩
    rw [Int.toNat_natCast]
    exact full_yes w K hK a n c k hi
  · rw [if_neg h]
    exact full_no w K a n c i (by omega)

theorem checkA_any (i : Int) (hi : i ≤ 4611686018427387904) : Calls Try.prog 36 #[cfgV K (.slice a n c), .int .i64 i] w fun e w' => e = .returned (areaV (checkA K i)) ∧ Chg no w w' := by
  have hF0 : ∀ W, _ := fun W => fullA_any W K hK a n c i hi
  have HD : Hid (∀ W, _) := fun W => deltaA_any W K hK a n c i hi
  have hp := hK.p
  by_cases h : 0 ≤ i ∧ i.toNat % K.p ≠ 0
  · have hT := turn_any w K hK a n c i.toNat (by omega)
    have HT : Hid (∀ W, Calls Try.prog 69 #[cfgV K (.slice a n c), .int .i64 i] W fun e w' => e = .returned (.tuple #[.int .i64 ((i.toNat / K.p % 2 : Nat) : Int), .int .i64 ((i.toNat % K.p : Nat) : Int), .bool true]) ∧ Chg no W w') := fun W => by
      have := turn_any W K hK a n c i.toNat (by omega)
      rwa [Int.toNat_of_nonneg h.1] at this
    unfold checkA
    rw [if_neg (fun hh => h.2 hh.2)]
    obtain ⟨m, hm⟩ : ∃ m, i.toNat / K.p % 2 = m := ⟨_, rfl⟩
    obtain ⟨m0, hm0⟩ : ∃ m, i.toNat % K.p = m := ⟨_, rfl⟩
    simp only [hm, hm0] at HT
    have hm0n : ¬ (m0 : Int) = 0 := by have := h.2; omega
    obtain ⟨u, hu⟩ : ∃ u, (deltaA K i).1 = u := ⟨_, rfl⟩
    obtain ⟨v, hv⟩ : ∃ v, (deltaA K i).2 = v := ⟨_, rfl⟩
    simp only [areaV, hu, hv] at HD ⊢
    clear hF0 hT
    clear h
    obtain ⟨h, z, b, r, rd, wr, s, p, q, t⟩ := K
    try simp only at *
    clear hK hu hv hm hm0 hp hi
    go_enter Try.func36, Try.ntmps36
    go_wp2_with fail
    obtain ⟨w1, hw1⟩ : ∃ w1, (w.alloc (laO h z b r rd wr s p q t (.slice a n c))).alloc (.cells #[.int .i64 0, .int .i64 0] 39) = w1 := ⟨_, rfl⟩
    have HA : Hid (Lb w w.heap.size (w.heap.size + 1) h z b r rd wr s p q t (.slice a n c) w1) := by rw [← hw1]; exact Lb.made w _ _ _ _ _ _ _ _ _ _ _
    rw [hw1]
    obtain ⟨g, hg⟩ : ∃ g, w.heap.size = g := ⟨_, rfl⟩
    rw [hg] at HA ⊢
    obtain ⟨g1, hg1⟩ : ∃ g1, g + 1 = g1 := ⟨_, rfl⟩
    rw [hg1] at HA ⊢
    clear hw1 hg hg1
    refine (HT.out _).mono ?_
    rintro e w2 ⟨rfl, k2⟩
    have HA2 : Hid (Lb w g g1 h z b r rd wr s p q t (.slice a n c) w2) := HA.out.later (k2)
    clear HA
    have HA : Hid (Lb w g g1 h z b r rd wr s p q t (.slice a n c) w2) := HA2.out
    clear HA2
    clear k2
    obtain ⟨c0, c1, c2, c3, c4, c5, c6, c7, c8, c9, c10⟩ := la_cells HA.out.box
    go_wp2_with fail
    refine (HD.out _).mono ?_
    rintro e w3 ⟨rfl, k3⟩
    clear c0 c1 c2 c3 c4 c5 c6 c7 c8 c9 c10
    have HA2 : Hid (Lb w g g1 h z b r rd wr s p q t (.slice a n c) w3) := HA.out.later (k3)
    clear HA
    have HA : Hid (Lb w g g1 h z b r rd wr s p q t (.slice a n c) w3) := HA2.out
    clear HA2
    obtain ⟨r0, r1, r2, r3⟩ := HA.out.cells
    go_wp2
    have hres : Try.f36.results = #[.cell 4 39] := by kernel_rfl
    obtain ⟨KZ, q0, q1⟩ := HA.out.stored u v
    refine bodyPost_ret (v := areaV (u, v)) ?_ rfl ⟨rfl, KZ⟩
    obtain ⟨wz, hwz⟩ : ∃ wz, (w3.setCell ⟨g1, 0, none⟩ (.int .i64 u)).setCell ⟨g1, 1, none⟩ (.int .i64 v) = wz := ⟨_, rfl⟩
    rw [hwz] at q0 q1 ⊢
    clear hwz KZ
    simp only [results, hres]
    go_simp
  · have HT : Hid (∃ (x : Int) (B : Bool), ∀ W, Calls Try.prog 69 #[cfgV K (.slice a n c), .int .i64 i] W fun e w' => e = .returned (.tuple #[.int .i64 x, .int .i64 0, .bool B]) ∧ Chg no W w') := by
      by_cases h0 : 0 ≤ i
      · obtain ⟨k, rfl⟩ : ∃ k : Nat, i = k := ⟨i.toNat, by omega⟩
        rw [Int.toNat_natCast] at h
        have hk : k % K.p = 0 := Classical.byContradiction fun hh => h ⟨h0, hh⟩
        exact ⟨_, true, fun W => by
          have := turn_any W K hK a n c k hi
          rw [hk] at this
          exact this⟩
      · exact ⟨0, false, fun W => turn_no W K a n c i (by omega)⟩
    have he : checkA K i = fullA K i := by
      unfold checkA
      by_cases h0 : 0 ≤ i
      · have hk : i.toNat % K.p = 0 := Classical.byContradiction fun hh => h ⟨h0, hh⟩
        rw [if_pos ⟨h0, hk⟩]
      · rw [if_neg (fun hh => h0 hh.1)]
        unfold deltaA fullA
        rw [if_neg (fun hh => h0 hh.1), if_neg h0]
    rw [he]
    have HF : Hid (∀ W, _) := hF0
    obtain ⟨x, B, HT⟩ := HT.out
    have HT : Hid (∀ W, Calls Try.prog 69 #[cfgV K (.slice a n c), .int .i64 i] W fun e w' => e = .returned (.tuple #[.int .i64 x, .int .i64 0, .bool B]) ∧ Chg no W w') := HT
    obtain ⟨u, hu⟩ : ∃ u, (fullA K i).1 = u := ⟨_, rfl⟩
    obtain ⟨v, hv⟩ : ∃ v, (fullA K i).2 = v := ⟨_, rfl⟩
    simp only [areaV, hu, hv] at HF ⊢
    clear hF0 HD he h
    obtain ⟨h, z, b, r, rd, wr, s, p, q, t⟩ := K
    try simp only at *
    clear hK hu hv hp hi
    go_enter Try.func36, Try.ntmps36
    go_wp2_with fail
    obtain ⟨w1, hw1⟩ : ∃ w1, (w.alloc (laO h z b r rd wr s p q t (.slice a n c))).alloc (.cells #[.int .i64 0, .int .i64 0] 39) = w1 := ⟨_, rfl⟩
    have HA : Hid (Lb w w.heap.size (w.heap.size + 1) h z b r rd wr s p q t (.slice a n c) w1) := by rw [← hw1]; exact Lb.made w _ _ _ _ _ _ _ _ _ _ _
    rw [hw1]
    obtain ⟨g, hg⟩ : ∃ g, w.heap.size = g := ⟨_, rfl⟩
    rw [hg] at HA ⊢
    obtain ⟨g1, hg1⟩ : ∃ g1, g + 1 = g1 := ⟨_, rfl⟩
    rw [hg1] at HA ⊢
    clear hw1 hg hg1
    refine (HT.out _).mono ?_
    rintro e w2 ⟨rfl, k2⟩
    have HA2 : Hid (Lb w g g1 h z b r rd wr s p q t (.slice a n c) w2) := HA.out.later (k2)
    clear HA
    have HA : Hid (Lb w g g1 h z b r rd wr s p q t (.slice a n c) w2) := HA2.out
    clear HA2
    clear k2
    obtain ⟨c0, c1, c2, c3, c4, c5, c6, c7, c8, c9, c10⟩ := la_cells HA.out.box
    go_wp2_with fail
    refine (HF.out _).mono ?_
    rintro e w3 ⟨rfl, k3⟩
    clear c0 c1 c2 c3 c4 c5 c6 c7 c8 c9 c10
    have HA2 : Hid (Lb w g g1 h z b r rd wr s p q t (.slice a n c) w3) := HA.out.later (k3)
    clear HA
    have HA : Hid (Lb w g g1 h z b r rd wr s p q t (.slice a n c) w3) := HA2.out
    clear HA2
    obtain ⟨r0, r1, r2, r3⟩ := HA.out.cells
    go_wp2
    have hres : Try.f36.results = #[.cell 4 39] := by kernel_rfl
    obtain ⟨KZ, q0, q1⟩ := HA.out.stored u v
    refine bodyPost_ret (v := areaV (u, v)) ?_ rfl ⟨rfl, KZ⟩
    obtain ⟨wz, hwz⟩ : ∃ wz, (w3.setCell ⟨g1, 0, none⟩ (.int .i64 u)).setCell ⟨g1, 1, none⟩ (.int .i64 v) = wz := ⟨_, rfl⟩
    rw [hwz] at q0 q1 ⊢
    clear hwz KZ
    simp only [results, hres]
    go_simp
end

end Go.Proofs.Ytfhpdcimdeilpaa.st
