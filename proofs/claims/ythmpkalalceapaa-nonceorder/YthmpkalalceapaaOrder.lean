/-
  Proved: for every three nonces the law NonceOrder returns true; no condition.
-/
import Derived.Test.YthmpkalalceapaaArgs
import Derived.Test.YthmpkalalceapaaFas
import Derived.Below
namespace Go.Proofs.Ythmpkalalceapaa.nonceOrder
open Go.ChangeShapes Go.WideShapes Go.ChangeAt Go.RowKit Go.Proofs.Ythmpkalalceapaa.hp Go.Proofs.Ythmpkalalceapaa.dg Go.Proofs.Ythmpkalalceapaa.st
set_option linter.unusedVariables false

/-- Three nonces that came in, laid in memory. -/
theorem three (w : World) (a0 b0 a1 b1 a2 b2 : Int) {w1 : World} (k1 : Chg no (((w.alloc (.cells #[.int .i64 a0, .int .i64 b0] 23)).alloc (.cells #[.int .i64 a1, .int .i64 b1] 23)).alloc (.cells #[.int .i64 a2, .int .i64 b2] 23)) w1) :
    w1.heap[w.heap.size]? = some (.cells #[.int .i64 a0, .int .i64 b0] 23 (0, 0)) ∧ w1.heap[w.heap.size + 1]? = some (.cells #[.int .i64 a1, .int .i64 b1] 23 (0, 0)) ∧ w1.heap[w.heap.size + 2]? = some (.cells #[.int .i64 a2, .int .i64 b2] 23 (0, 0)) ∧ Chg no w w1 := by
  have z1 : (w.alloc (.cells #[.int .i64 a0, .int .i64 b0] 23)).heap.size = w.heap.size + 1 := by simp
  have z2 : ((w.alloc (.cells #[.int .i64 a0, .int .i64 b0] 23)).alloc (.cells #[.int .i64 a1, .int .i64 b1] 23)).heap.size = w.heap.size + 2 := by simp
  have h1 := heap_alloc_new w (.cells #[.int .i64 a0, .int .i64 b0] 23)
  have h2 := heap_alloc_new (w.alloc (.cells #[.int .i64 a0, .int .i64 b0] 23)) (.cells #[.int .i64 a1, .int .i64 b1] 23)
  have h3 := heap_alloc_new ((w.alloc (.cells #[.int .i64 a0, .int .i64 b0] 23)).alloc (.cells #[.int .i64 a1, .int .i64 b1] 23)) (.cells #[.int .i64 a2, .int .i64 b2] 23)
  rw [z1] at h2
  rw [z2] at h3
  exact ⟨k1.heap ((((Chg.refl no _).alloc _).alloc _).heap h1 id) id, k1.heap (((Chg.refl no _).alloc _).heap h2 id) id, k1.heap h3 id, ((((Chg.refl no w).alloc _).alloc _).alloc _).then k1⟩

set_option maxRecDepth 100000 in
set_option maxHeartbeats 2000000 in
theorem early (w : World) (a0 b0 a1 b1 a2 b2 : Int) (hh : may a0 b0 = false ∨ may a1 b1 = false ∨ may a2 b2 = false) :
    Calls Try.prog 6 #[nv a0 b0, nv a1 b1, nv a2 b2] w fun e w' => e = .returned (.bool true) ∧ Below w.heap.size w w' := by
  have H0 := fun w => may_any w a0 b0
  have H1 := fun w => may_any w a1 b1
  have H2 := fun w => may_any w a2 b2
  cases m0 : may a0 b0 with
  | false =>
    simp only [m0] at H0
    clear m0 hh H1 H2
    go_enter Try.func6, Try.ntmps6
    go_wp2_with fail
    refine (first_any _).mono ?_
    rintro e w1 ⟨rfl, k1⟩
    obtain ⟨gA, gB, gC, K1⟩ := three w a0 b0 a1 b1 a2 b2 k1
    obtain ⟨c0, _⟩ := row_cell (xs := [_, _]) gA 0 _ rfl
    obtain ⟨c1, _⟩ := row_cell (xs := [_, _]) gA 1 _ rfl
    clear k1 gA gB gC
    go_wp2_with fail
    refine (H0 _).mono ?_
    rintro e w2 ⟨rfl, k2⟩
    go_wp2_with fail
    refine (first_any _).mono ?_
    rintro e w3 ⟨rfl, k3⟩
    go_wp2
    go_ret
    exact ⟨rfl, ((K1.then k2).then k3).below⟩
  | true =>
    cases m1 : may a1 b1 with
    | false =>
      simp only [m0] at H0
      simp only [m1] at H1
      clear m0 m1 hh H2
      go_enter Try.func6, Try.ntmps6
      go_wp2_with fail
      refine (first_any _).mono ?_
      rintro e w1 ⟨rfl, k1⟩
      obtain ⟨gA, gB, gC, K1⟩ := three w a0 b0 a1 b1 a2 b2 k1
      obtain ⟨c0, _⟩ := row_cell (xs := [_, _]) gA 0 _ rfl
      obtain ⟨c1, _⟩ := row_cell (xs := [_, _]) gA 1 _ rfl
      clear k1 gA gC
      go_wp2_with fail
      refine (H0 _).mono ?_
      rintro e w2 ⟨rfl, k2⟩
      obtain ⟨d0, _⟩ := row_cell (xs := [_, _]) (k2.heap gB id) 0 _ rfl
      obtain ⟨d1, _⟩ := row_cell (xs := [_, _]) (k2.heap gB id) 1 _ rfl
      go_wp2_with fail
      refine (H1 _).mono ?_
      rintro e w4 ⟨rfl, k4⟩
      go_wp2_with fail
      refine (first_any _).mono ?_
      rintro e w3 ⟨rfl, k3⟩
      go_wp2
      go_ret
      exact ⟨rfl, (((K1.then k2).then k4).then k3).below⟩
    | true =>
      have m2 : may a2 b2 = false := by rcases hh with h | h | h; (rw [m0] at h; cases h); (rw [m1] at h; cases h); exact h
      simp only [m0] at H0
      simp only [m1] at H1
      simp only [m2] at H2
      clear m0 m1 m2 hh
      go_enter Try.func6, Try.ntmps6
      go_wp2_with fail
      refine (first_any _).mono ?_
      rintro e w1 ⟨rfl, k1⟩
      obtain ⟨gA, gB, gC, K1⟩ := three w a0 b0 a1 b1 a2 b2 k1
      obtain ⟨c0, _⟩ := row_cell (xs := [_, _]) gA 0 _ rfl
      obtain ⟨c1, _⟩ := row_cell (xs := [_, _]) gA 1 _ rfl
      clear k1 gA
      go_wp2_with fail
      refine (H0 _).mono ?_
      rintro e w2 ⟨rfl, k2⟩
      obtain ⟨d0, _⟩ := row_cell (xs := [_, _]) (k2.heap gB id) 0 _ rfl
      obtain ⟨d1, _⟩ := row_cell (xs := [_, _]) (k2.heap gB id) 1 _ rfl
      go_wp2_with fail
      refine (H1 _).mono ?_
      rintro e w4 ⟨rfl, k4⟩
      obtain ⟨f0, _⟩ := row_cell (xs := [_, _]) (k4.heap (k2.heap gC id) id) 0 _ rfl
      obtain ⟨f1, _⟩ := row_cell (xs := [_, _]) (k4.heap (k2.heap gC id) id) 1 _ rfl
      go_wp2_with fail
      refine (H2 _).mono ?_
      rintro e w5 ⟨rfl, k5⟩
      go_wp2_with fail
      refine (first_any _).mono ?_
      rintro e w3 ⟨rfl, k3⟩
      go_wp2
      go_ret
      exact ⟨rfl, ((((K1.then k2).then k4).then k5).then k3).below⟩

set_option maxRecDepth 100000 in
set_option maxHeartbeats 8000000 in
theorem late (w : World) (a0 b0 a1 b1 a2 b2 : Int) (m0 : may a0 b0 = true) (m1 : may a1 b1 = true) (m2 : may a2 b2 = true) :
    Calls Try.prog 6 #[nv a0 b0, nv a1 b1, nv a2 b2] w fun e w' => e = .returned (.bool true) ∧ Below w.heap.size w w' := by
  have H0 := fun w => may_any w a0 b0
  have H1 := fun w => may_any w a1 b1
  have H2 := fun w => may_any w a2 b2
  simp only [m0] at H0
  simp only [m1] at H1
  simp only [m2] at H2
  have HLT : Hid (Op.bytesLess (strOfNums (nbs a0 b0)).toList (strOfNums (nbs a1 b1)).toList = decide (a0 < a1 ∨ a0 = a1 ∧ b0 < b1)) := str_lt a0 b0 a1 b1 m0 m1
  have HGT : Hid (Op.bytesLess (strOfNums (nbs a1 b1)).toList (strOfNums (nbs a0 b0)).toList = decide (a1 < a0 ∨ a1 = a0 ∧ b1 < b0)) := str_lt a1 b1 a0 b0 m1 m0
  have HEQ : Hid (((strOfNums (nbs a0 b0)).toList == (strOfNums (nbs a1 b1)).toList) = decide (a0 = a1 ∧ b0 = b1)) := str_eq a0 b0 a1 b1 m0 m1
  have HLN : Hid ((strOfNums (nbs a0 b0)).size = 12) := by
    have := nbs_length a0 b0
    have e := strOfNums_size (nbs a0 b0)
    rw [this] at e
    exact e
  have HPP : Hid (∀ w' b, w'.heap[b]? = some (.cells ((nbs a0 b0).map (Value.int .u8)).toArray 5 (0, 0)) → Calls Try.prog 9 #[.slice (some ⟨b, 0, none⟩) 12 12] w' fun e w'' => e = .returned (.tuple #[nv a0 b0, .int .i64 0]) ∧ Chg no w' w'') := by
    intro w' b hb
    have q := block_lies hb
    rw [nbs_length] at q
    refine (parse_12 w' _ (nbs a0 b0) q (nbs_bytes _ _) (nbs_length _ _)).mono ?_
    rintro e w'' ⟨h1, _, h3⟩
    obtain ⟨e1, e2⟩ := pg_nbs a0 b0 m0
    rw [e1, e2] at h1
    exact ⟨h1 m0, h3⟩
  obtain ⟨Z0, hZ0⟩ : ∃ Z, nbs a0 b0 = Z := ⟨_, rfl⟩
  obtain ⟨Z1, hZ1⟩ : ∃ Z, nbs a1 b1 = Z := ⟨_, rfl⟩
  have hz0 : Z0.length = 12 := by rw [← hZ0]; exact nbs_length a0 b0
  have hz1 : Z1.length = 12 := by rw [← hZ1]; exact nbs_length a1 b1
  have HB0 := fun w => bytes_any w a0 b0
  have HB1 := fun w => bytes_any w a1 b1
  simp only [hZ0] at HB0 HLT HGT HEQ HLN HPP
  simp only [hZ1] at HB1 HLT HGT HEQ
  have HBB0 : Hid (∀ w, Calls Try.prog 15 #[nv a0 b0] w (Bys w Z0)) := HB0
  have HBB1 : Hid (∀ w, Calls Try.prog 15 #[nv a1 b1] w (Bys w Z1)) := HB1
  obtain ⟨S0, hS0⟩ : ∃ S, strOfNums Z0 = S := ⟨_, rfl⟩
  obtain ⟨S1, hS1⟩ : ∃ S, strOfNums Z1 = S := ⟨_, rfl⟩
  have HC0 : Hid (∀ w' b, w'.heap[b]? = some (.cells (Z0.map (Value.int .u8)).toArray 5 (0, 0)) → (convert 24 9 (.slice (some ⟨b, 0, none⟩) 12 12)).run Try.prog w' = .ok (.string S0) w') := by
    intro w' b hb
    have q := block_lies hb
    rw [hz0] at q
    rw [← hS0]
    exact conv_arg q
  have HC1 : Hid (∀ w' b, w'.heap[b]? = some (.cells (Z1.map (Value.int .u8)).toArray 5 (0, 0)) → (convert 24 9 (.slice (some ⟨b, 0, none⟩) 12 12)).run Try.prog w' = .ok (.string S1) w') := by
    intro w' b hb
    have q := block_lies hb
    rw [hz1] at q
    rw [← hS1]
    exact conv_arg q
  simp only [hS0] at HLT HGT HEQ HLN
  simp only [hS1] at HLT HGT HEQ
  clear hZ0 hZ1 hS0 hS1 HB0 HB1 hz0 hz1 m0 m1 m2
  go_enter Try.func6, Try.ntmps6
  go_wp2_with fail
  refine (first_any _).mono ?_
  rintro e w1 ⟨rfl, k1⟩
  obtain ⟨gA, gB, gC, K1⟩ := three w a0 b0 a1 b1 a2 b2 k1
  obtain ⟨N0, hN0⟩ : ∃ N, w.heap.size = N := ⟨_, rfl⟩
  obtain ⟨N1, hN1⟩ : ∃ N, N0 + 1 = N := ⟨_, rfl⟩
  obtain ⟨N2, hN2⟩ : ∃ N, N0 + 2 = N := ⟨_, rfl⟩
  have hN3 : N1 + 1 = N2 := by omega
  simp only [hN0, hN1, hN2, hN3] at gA gB gC ⊢
  obtain ⟨c0, _⟩ := row_cell (xs := [_, _]) gA 0 _ rfl
  obtain ⟨c1, _⟩ := row_cell (xs := [_, _]) gA 1 _ rfl
  clear k1 hN1 hN2 hN3
  go_wp2_with fail
  refine (H0 _).mono ?_
  rintro e w2 ⟨rfl, k2⟩
  have gA2 := k2.heap gA id
  have gB2 := k2.heap gB id
  have gC2 := k2.heap gC id
  have K2 := K1.then k2
  obtain ⟨d0, _⟩ := row_cell (xs := [_, _]) gB2 0 _ rfl
  obtain ⟨d1, _⟩ := row_cell (xs := [_, _]) gB2 1 _ rfl
  clear gA gB gC c0 c1 k2 K1
  go_wp2_with fail
  refine (H1 _).mono ?_
  rintro e w3 ⟨rfl, k3⟩
  have gA3 := k3.heap gA2 id
  have gB3 := k3.heap gB2 id
  have gC3 := k3.heap gC2 id
  have K3 := K2.then k3
  obtain ⟨f0, _⟩ := row_cell (xs := [_, _]) gC3 0 _ rfl
  obtain ⟨f1, _⟩ := row_cell (xs := [_, _]) gC3 1 _ rfl
  clear gA2 gB2 gC2 d0 d1 k3 K2
  go_wp2_with fail
  refine (H2 _).mono ?_
  rintro e w4 ⟨rfl, k4⟩
  have gA := k4.heap gA3 id
  have gB := k4.heap gB3 id
  have gC := k4.heap gC3 id
  have K4 := K3.then k4
  clear gA3 gB3 gC3 f0 f1 k4 K3 H0 H1 H2
  go_wp2_with fail
  obtain ⟨pG, hpG⟩ : ∃ pG : World → Prop, ∀ w', pG w' ↔ Chg no w4 w' := ⟨_, fun _ => Iff.rfl⟩
  have xA0 : ∀ x' : fas.InC pG, x'.w.cell? ⟨N0, 0, none⟩ = some (.int .i64 a0) := fun x => (row_cell (xs := [_, _]) (((hpG _).1 x.h).heap gA id) 0 _ rfl).1
  have xA1 : ∀ x' : fas.InC pG, x'.w.cell? ⟨N0, 1, none⟩ = some (.int .i64 b0) := fun x => (row_cell (xs := [_, _]) (((hpG _).1 x.h).heap gA id) 1 _ rfl).1
  have xB0 : ∀ x' : fas.InC pG, x'.w.cell? ⟨N1, 0, none⟩ = some (.int .i64 a1) := fun x => (row_cell (xs := [_, _]) (((hpG _).1 x.h).heap gB id) 0 _ rfl).1
  have xB1 : ∀ x' : fas.InC pG, x'.w.cell? ⟨N1, 1, none⟩ = some (.int .i64 b1) := fun x => (row_cell (xs := [_, _]) (((hpG _).1 x.h).heap gB id) 1 _ rfl).1
  have iG : Nonempty (fas.InC pG) := ⟨⟨w4, (hpG _).2 (Chg.refl _ _)⟩⟩
  have HpG : Hid (∀ w', pG w' ↔ Chg no w4 w') := hpG
  have Y0 : Chg no w4 w4.drew := (Chg.refl no w4).drew
  clear hpG
  refine fas.region_farM (fun κ w' => pG w') [1, 4] (by kernel_rfl) (by kernel_rfl) ((HpG.out _).2 Y0) ?_
  intro L e1' e2' e3'
  refine fas.farO_stretch pG 1 0 0 e1' e2' e3' (by kernel_rfl) (by kernel_rfl) (fun κ w' hk1 hk2 hC => hC) ?_
  simp only [List.take_succ_cons, List.take_zero, List.drop_succ_cons, List.drop_zero, Nat.reduceAdd]
  repeat (go_big_quiet_step (fail))
  refine wpQuiet_nil ?_
  refine fas.farO_narrow e1' e2' e3' 0 rfl rfl 15 #[nv a0 b0] (by kernel_rfl) (by kernel_rfl) ?_
  refine (HBB0.out _).mono ?_
  rintro e wa ⟨p0, rfl, _, hb0, ka⟩
  have Ka := Y0.then ka
  refine ⟨_, rfl, (HpG.out _).2 Ka, fun w' => w'.heap[p0]? = some (.cells (Z0.map (Value.int .u8)).toArray 5 (0, 0)), hb0, ?_⟩
  intro L1 e1 e2 e3
  simp only [Act.put, List.setIfInBounds_toArray, List.set_cons_succ, List.set_cons_zero, Nat.reduceAdd]
  obtain ⟨pC, hpC⟩ : ∃ pC : World → Prop, ∀ w', pC w' ↔ w'.heap[p0]? = some (.cells (Z0.map (Value.int .u8)).toArray 5 (0, 0)) := ⟨_, fun _ => Iff.rfl⟩
  have xC : ∀ x' : fas.InC pC, (convert 24 9 (.slice (some ⟨p0, 0, none⟩) 12 12)).run Try.prog x'.w = .ok (.string S0) x'.w := fun x => HC0.out _ _ ((hpC _).1 x.h)
  have iC : Nonempty (fas.InC pC) := ⟨⟨wa, (hpC _).2 hb0⟩⟩
  have HpC : Hid (∀ w', pC w' ↔ w'.heap[p0]? = some (.cells (Z0.map (Value.int .u8)).toArray 5 (0, 0))) := hpC
  clear hpC
  refine fas.farO_stretch pC 1 1 2 e1 e2 e3 (by kernel_rfl) (by kernel_rfl) (fun κ w' hk1 hk2 hC => (HpC.out _).2 (hC.2 (by omega))) ?_
  simp only [List.take_succ_cons, List.take_zero, List.drop_succ_cons, List.drop_zero, Nat.reduceAdd]
  repeat (go_big_quiet_step (fail))
  refine wpQuiet_nil ?_
  refine fas.farO_stretch pG 1 0 1 e1 e2 e3 (by kernel_rfl) (by kernel_rfl) (fun κ w' hk1 hk2 hC => hC.1) ?_
  simp only [List.take_succ_cons, List.take_zero, List.drop_succ_cons, List.drop_zero, Nat.reduceAdd]
  repeat (go_big_quiet_step (fail))
  refine wpQuiet_nil ?_
  refine fas.farO_narrow e1 e2 e3 1 rfl rfl 15 #[nv a1 b1] (by kernel_rfl) (by kernel_rfl) ?_
  refine (HBB1.out _).mono ?_
  rintro e wb ⟨p1, rfl, _, hb1, kb⟩
  have Kb := Ka.then kb
  refine ⟨_, rfl, ⟨(HpG.out _).2 Kb, fun _ => kb.heap hb0 id⟩, fun w' => w'.heap[p1]? = some (.cells (Z1.map (Value.int .u8)).toArray 5 (0, 0)), hb1, ?_⟩
  intro L2 u1 u2 u3
  simp only [Act.put, List.setIfInBounds_toArray, List.set_cons_succ, List.set_cons_zero, Nat.reduceAdd]
  obtain ⟨pD, hpD⟩ : ∃ pD : World → Prop, ∀ w', pD w' ↔ w'.heap[p1]? = some (.cells (Z1.map (Value.int .u8)).toArray 5 (0, 0)) := ⟨_, fun _ => Iff.rfl⟩
  have xD : ∀ x' : fas.InC pD, (convert 24 9 (.slice (some ⟨p1, 0, none⟩) 12 12)).run Try.prog x'.w = .ok (.string S1) x'.w := fun x => HC1.out _ _ ((hpD _).1 x.h)
  have iD : Nonempty (fas.InC pD) := ⟨⟨wb, (hpD _).2 hb1⟩⟩
  have HpD : Hid (∀ w', pD w' ↔ w'.heap[p1]? = some (.cells (Z1.map (Value.int .u8)).toArray 5 (0, 0))) := hpD
  clear hpD
  refine fas.farO_stretch pD 3 2 2 u1 u2 u3 (by kernel_rfl) (by kernel_rfl) (fun κ w' hk1 hk2 hC => (HpD.out _).2 (hC.2 (by omega))) ?_
  simp only [List.take_succ_cons, List.take_zero, List.drop_succ_cons, List.drop_zero, Nat.reduceAdd]
  repeat (go_big_quiet_step (fail))
  refine wpQuiet_nil ?_
  refine fas.farO_nil ?_
  have gA := Kb.heap gA id
  have gB := Kb.heap gB id
  have gC := Kb.heap gC id
  have K5 := K4.then Kb
  clear xA0 xA1 xB0 xB1 xC xD iG iC iD HpG HpC HpD Y0 Ka Kb ka kb hb0 hb1 K4 HC0 HC1
  obtain ⟨LAB, hLAB⟩ : ∃ B, decide (a0 < a1 ∨ a0 = a1 ∧ b0 < b1) = B := ⟨_, rfl⟩
  obtain ⟨LBA, hLBA⟩ : ∃ B, decide (a1 < a0 ∨ a1 = a0 ∧ b1 < b0) = B := ⟨_, rfl⟩
  obtain ⟨EB, hEB⟩ : ∃ B, decide (a0 = a1 ∧ b0 = b1) = B := ⟨_, rfl⟩
  obtain ⟨LBC, hLBC⟩ : ∃ B, decide (a1 < a2 ∨ a1 = a2 ∧ b1 < b2) = B := ⟨_, rfl⟩
  obtain ⟨LAC, hLAC⟩ : ∃ B, decide (a0 < a2 ∨ a0 = a2 ∧ b0 < b2) = B := ⟨_, rfl⟩
  have L1 := fun w => less_any w a0 b0 a1 b1
  have L2 := fun w => less_any w a1 b1 a0 b0
  have L3 := fun w => less_any w a1 b1 a2 b2
  have L4 := fun w => less_any w a0 b0 a2 b2
  have LL5 : Hid (∀ w, Calls Try.prog 17 #[nv a0 b0, nv a0 b0] w fun e w' => e = .returned (.bool false) ∧ Chg no w w') := by
    intro w
    have h5 := less_any w a0 b0 a0 b0
    rw [decide_eq_false (show ¬ (a0 < a0 ∨ a0 = a0 ∧ b0 < b0) by omega)] at h5
    exact h5
  have hlt := HLT.out
  have hgt := HGT.out
  have heq := HEQ.out
  have hln := HLN.out
  have hway : (LAB = false ∧ EB = true ∧ a0 = a1 ∧ b0 = b1) ∨ (LAB = false ∧ EB = false ∧ (a0 == a1) = false) ∨ (LAB = true ∧ LBC = false ∧ EB = false ∧ (a0 == a1) = false) ∨ (LAB = true ∧ LBC = true ∧ LAC = true ∧ EB = false ∧ (a0 == a1) = false) ∨
      (LAB = false ∧ EB = false ∧ a0 = a1 ∧ (b0 == b1) = false) ∨ (LAB = true ∧ LBC = false ∧ EB = false ∧ a0 = a1 ∧ (b0 == b1) = false) ∨ (LAB = true ∧ LBC = true ∧ LAC = true ∧ EB = false ∧ a0 = a1 ∧ (b0 == b1) = false) := by
    rw [← hLAB, ← hEB, ← hLBC, ← hLAC]
    simp only [decide_eq_true_eq, decide_eq_false_iff_not, beq_eq_false_iff_ne]
    omega
  simp only [hLAB] at L1 hlt
  simp only [hLBA] at L2 hgt
  simp only [hEB] at heq
  simp only [hLBC] at L3
  simp only [hLAC] at L4
  have LL1 : Hid (∀ w, Calls Try.prog 17 #[nv a0 b0, nv a1 b1] w fun e w' => e = .returned (.bool LAB) ∧ Chg no w w') := L1
  have LL2 : Hid (∀ w, Calls Try.prog 17 #[nv a1 b1, nv a0 b0] w fun e w' => e = .returned (.bool LBA) ∧ Chg no w w') := L2
  have LL3 : Hid (∀ w, Calls Try.prog 17 #[nv a1 b1, nv a2 b2] w fun e w' => e = .returned (.bool LBC) ∧ Chg no w w') := L3
  have LL4 : Hid (∀ w, Calls Try.prog 17 #[nv a0 b0, nv a2 b2] w fun e w' => e = .returned (.bool LAC) ∧ Chg no w w') := L4
  clear HLT HGT HEQ HLN L1 L2 L3 L4 hLAB hLBA hEB hLBC hLAC
  rcases hway with ⟨rfl, rfl, rfl, rfl⟩ | ⟨rfl, rfl, q1⟩ | ⟨rfl, rfl, rfl, q1⟩ | ⟨rfl, rfl, rfl, rfl, q1⟩ | ⟨rfl, rfl, rfl, q1⟩ | ⟨rfl, rfl, rfl, rfl, q1⟩ | ⟨rfl, rfl, rfl, rfl, rfl, q1⟩
  · obtain ⟨c0, _⟩ := row_cell (xs := [_, _]) gA 0 _ rfl
    obtain ⟨c1, _⟩ := row_cell (xs := [_, _]) gA 1 _ rfl
    obtain ⟨d0, _⟩ := row_cell (xs := [_, _]) gB 0 _ rfl
    obtain ⟨d1, _⟩ := row_cell (xs := [_, _]) gB 1 _ rfl
    obtain ⟨f0, _⟩ := row_cell (xs := [_, _]) gC 0 _ rfl
    obtain ⟨f1, _⟩ := row_cell (xs := [_, _]) gC 1 _ rfl
    go_wp2_with fail
    refine (LL1.out _).mono ?_
    rintro e wc ⟨rfl, kc⟩
    have gA := kc.heap gA id
    have gB := kc.heap gB id
    have gC := kc.heap gC id
    have K6 := K5.then kc
    clear c0 c1 d0 d1 f0 f1 kc
    obtain ⟨c0, _⟩ := row_cell (xs := [_, _]) gA 0 _ rfl
    obtain ⟨c1, _⟩ := row_cell (xs := [_, _]) gA 1 _ rfl
    obtain ⟨d0, _⟩ := row_cell (xs := [_, _]) gB 0 _ rfl
    obtain ⟨d1, _⟩ := row_cell (xs := [_, _]) gB 1 _ rfl
    obtain ⟨f0, _⟩ := row_cell (xs := [_, _]) gC 0 _ rfl
    obtain ⟨f1, _⟩ := row_cell (xs := [_, _]) gC 1 _ rfl
    go_wp2_with fail
    refine (LL2.out _).mono ?_
    rintro e wd ⟨rfl, kd⟩
    have gA := kd.heap gA id
    have gB := kd.heap gB id
    have gC := kd.heap gC id
    have K7 := K6.then kd
    clear c0 c1 d0 d1 f0 f1 kd
    obtain ⟨c0, _⟩ := row_cell (xs := [_, _]) gA 0 _ rfl
    obtain ⟨c1, _⟩ := row_cell (xs := [_, _]) gA 1 _ rfl
    obtain ⟨d0, _⟩ := row_cell (xs := [_, _]) gB 0 _ rfl
    obtain ⟨d1, _⟩ := row_cell (xs := [_, _]) gB 1 _ rfl
    obtain ⟨f0, _⟩ := row_cell (xs := [_, _]) gC 0 _ rfl
    obtain ⟨f1, _⟩ := row_cell (xs := [_, _]) gC 1 _ rfl
    go_wp2_with fail
    refine (HBB0.out _).mono ?_
    rintro e we ⟨pb, rfl, _, hb, ke⟩
    have gA := ke.heap gA id
    have gB := ke.heap gB id
    have gC := ke.heap gC id
    have K8 := K7.then ke
    clear c0 c1 d0 d1 f0 f1 ke
    obtain ⟨c0, _⟩ := row_cell (xs := [_, _]) gA 0 _ rfl
    obtain ⟨c1, _⟩ := row_cell (xs := [_, _]) gA 1 _ rfl
    obtain ⟨d0, _⟩ := row_cell (xs := [_, _]) gB 0 _ rfl
    obtain ⟨d1, _⟩ := row_cell (xs := [_, _]) gB 1 _ rfl
    obtain ⟨f0, _⟩ := row_cell (xs := [_, _]) gC 0 _ rfl
    obtain ⟨f1, _⟩ := row_cell (xs := [_, _]) gC 1 _ rfl
    have HP9 := HPP.out _ _ hb
    go_wp2_with fail
    refine HP9.mono ?_
    rintro e wf ⟨rfl, kf⟩
    have gA := kf.heap gA id
    have gB := kf.heap gB id
    have gC := kf.heap gC id
    have K9 := K8.then kf
    have z := lt_of_block gA
    clear HP9 hb c0 c1 d0 d1 f0 f1 kf
    have k10 : Chg no wf (wf.alloc (.cells #[.int .i64 a0, .int .i64 b0] 23)) := (Chg.refl no wf).alloc _
    have gA := k10.heap gA id
    have gB := k10.heap gB id
    have gC := k10.heap gC id
    have gD : (wf.alloc (.cells #[.int .i64 a0, .int .i64 b0] 23)).heap[wf.heap.size]? = some (.cells #[.int .i64 a0, .int .i64 b0] 23 (0, 0)) := heap_alloc_new _ _
    have K10 := K9.then k10
    go_wp2_with fail
    refine (first_any _).mono ?_
    rintro e wg ⟨rfl, kg⟩
    have gA := kg.heap gA id
    have gB := kg.heap gB id
    have gC := kg.heap gC id
    have gD := kg.heap gD id
    have K11 := K10.then kg
    clear kg k10
    obtain ⟨c0, _⟩ := row_cell (xs := [_, _]) gA 0 _ rfl
    obtain ⟨c1, _⟩ := row_cell (xs := [_, _]) gA 1 _ rfl
    obtain ⟨d0, _⟩ := row_cell (xs := [_, _]) gB 0 _ rfl
    obtain ⟨d1, _⟩ := row_cell (xs := [_, _]) gB 1 _ rfl
    obtain ⟨f0, _⟩ := row_cell (xs := [_, _]) gC 0 _ rfl
    obtain ⟨f1, _⟩ := row_cell (xs := [_, _]) gC 1 _ rfl
    obtain ⟨r0, _⟩ := row_cell (xs := [_, _]) gD 0 _ rfl
    obtain ⟨r1, _⟩ := row_cell (xs := [_, _]) gD 1 _ rfl
    go_wp2_with fail
    refine (LL1.out _).mono ?_
    rintro e w12 ⟨rfl, k12⟩
    have gA := k12.heap gA id
    have gB := k12.heap gB id
    have gC := k12.heap gC id
    have K12 := K11.then k12
    clear c0 c1 d0 d1 f0 f1 k12
    obtain ⟨c0, _⟩ := row_cell (xs := [_, _]) gA 0 _ rfl
    obtain ⟨c1, _⟩ := row_cell (xs := [_, _]) gA 1 _ rfl
    obtain ⟨d0, _⟩ := row_cell (xs := [_, _]) gB 0 _ rfl
    obtain ⟨d1, _⟩ := row_cell (xs := [_, _]) gB 1 _ rfl
    obtain ⟨f0, _⟩ := row_cell (xs := [_, _]) gC 0 _ rfl
    obtain ⟨f1, _⟩ := row_cell (xs := [_, _]) gC 1 _ rfl
    go_wp2_with fail
    refine (LL5.out _).mono ?_
    rintro e w13 ⟨rfl, k13⟩
    have gA := k13.heap gA id
    have gB := k13.heap gB id
    have gC := k13.heap gC id
    have K13 := K12.then k13
    clear c0 c1 d0 d1 f0 f1 k13
    obtain ⟨c0, _⟩ := row_cell (xs := [_, _]) gA 0 _ rfl
    obtain ⟨c1, _⟩ := row_cell (xs := [_, _]) gA 1 _ rfl
    obtain ⟨d0, _⟩ := row_cell (xs := [_, _]) gB 0 _ rfl
    obtain ⟨d1, _⟩ := row_cell (xs := [_, _]) gB 1 _ rfl
    obtain ⟨f0, _⟩ := row_cell (xs := [_, _]) gC 0 _ rfl
    obtain ⟨f1, _⟩ := row_cell (xs := [_, _]) gC 1 _ rfl
    go_wp2
    go_ret
    exact ⟨rfl, K13.below⟩
  · obtain ⟨c0, _⟩ := row_cell (xs := [_, _]) gA 0 _ rfl
    obtain ⟨c1, _⟩ := row_cell (xs := [_, _]) gA 1 _ rfl
    obtain ⟨d0, _⟩ := row_cell (xs := [_, _]) gB 0 _ rfl
    obtain ⟨d1, _⟩ := row_cell (xs := [_, _]) gB 1 _ rfl
    obtain ⟨f0, _⟩ := row_cell (xs := [_, _]) gC 0 _ rfl
    obtain ⟨f1, _⟩ := row_cell (xs := [_, _]) gC 1 _ rfl
    go_wp2_with fail
    refine (LL1.out _).mono ?_
    rintro e wc ⟨rfl, kc⟩
    have gA := kc.heap gA id
    have gB := kc.heap gB id
    have gC := kc.heap gC id
    have K6 := K5.then kc
    clear c0 c1 d0 d1 f0 f1 kc
    obtain ⟨c0, _⟩ := row_cell (xs := [_, _]) gA 0 _ rfl
    obtain ⟨c1, _⟩ := row_cell (xs := [_, _]) gA 1 _ rfl
    obtain ⟨d0, _⟩ := row_cell (xs := [_, _]) gB 0 _ rfl
    obtain ⟨d1, _⟩ := row_cell (xs := [_, _]) gB 1 _ rfl
    obtain ⟨f0, _⟩ := row_cell (xs := [_, _]) gC 0 _ rfl
    obtain ⟨f1, _⟩ := row_cell (xs := [_, _]) gC 1 _ rfl
    go_wp2_with fail
    refine (LL2.out _).mono ?_
    rintro e wd ⟨rfl, kd⟩
    have gA := kd.heap gA id
    have gB := kd.heap gB id
    have gC := kd.heap gC id
    have K7 := K6.then kd
    clear c0 c1 d0 d1 f0 f1 kd
    obtain ⟨c0, _⟩ := row_cell (xs := [_, _]) gA 0 _ rfl
    obtain ⟨c1, _⟩ := row_cell (xs := [_, _]) gA 1 _ rfl
    obtain ⟨d0, _⟩ := row_cell (xs := [_, _]) gB 0 _ rfl
    obtain ⟨d1, _⟩ := row_cell (xs := [_, _]) gB 1 _ rfl
    obtain ⟨f0, _⟩ := row_cell (xs := [_, _]) gC 0 _ rfl
    obtain ⟨f1, _⟩ := row_cell (xs := [_, _]) gC 1 _ rfl
    go_wp2_with fail
    refine (HBB0.out _).mono ?_
    rintro e we ⟨pb, rfl, _, hb, ke⟩
    have gA := ke.heap gA id
    have gB := ke.heap gB id
    have gC := ke.heap gC id
    have K8 := K7.then ke
    clear c0 c1 d0 d1 f0 f1 ke
    obtain ⟨c0, _⟩ := row_cell (xs := [_, _]) gA 0 _ rfl
    obtain ⟨c1, _⟩ := row_cell (xs := [_, _]) gA 1 _ rfl
    obtain ⟨d0, _⟩ := row_cell (xs := [_, _]) gB 0 _ rfl
    obtain ⟨d1, _⟩ := row_cell (xs := [_, _]) gB 1 _ rfl
    obtain ⟨f0, _⟩ := row_cell (xs := [_, _]) gC 0 _ rfl
    obtain ⟨f1, _⟩ := row_cell (xs := [_, _]) gC 1 _ rfl
    have HP9 := HPP.out _ _ hb
    go_wp2_with fail
    refine HP9.mono ?_
    rintro e wf ⟨rfl, kf⟩
    have gA := kf.heap gA id
    have gB := kf.heap gB id
    have gC := kf.heap gC id
    have K9 := K8.then kf
    have z := lt_of_block gA
    clear HP9 hb c0 c1 d0 d1 f0 f1 kf
    have k10 : Chg no wf (wf.alloc (.cells #[.int .i64 a0, .int .i64 b0] 23)) := (Chg.refl no wf).alloc _
    have gA := k10.heap gA id
    have gB := k10.heap gB id
    have gC := k10.heap gC id
    have gD : (wf.alloc (.cells #[.int .i64 a0, .int .i64 b0] 23)).heap[wf.heap.size]? = some (.cells #[.int .i64 a0, .int .i64 b0] 23 (0, 0)) := heap_alloc_new _ _
    have K10 := K9.then k10
    go_wp2_with fail
    refine (first_any _).mono ?_
    rintro e wg ⟨rfl, kg⟩
    have gA := kg.heap gA id
    have gB := kg.heap gB id
    have gC := kg.heap gC id
    have gD := kg.heap gD id
    have K11 := K10.then kg
    clear kg k10
    obtain ⟨c0, _⟩ := row_cell (xs := [_, _]) gA 0 _ rfl
    obtain ⟨c1, _⟩ := row_cell (xs := [_, _]) gA 1 _ rfl
    obtain ⟨d0, _⟩ := row_cell (xs := [_, _]) gB 0 _ rfl
    obtain ⟨d1, _⟩ := row_cell (xs := [_, _]) gB 1 _ rfl
    obtain ⟨f0, _⟩ := row_cell (xs := [_, _]) gC 0 _ rfl
    obtain ⟨f1, _⟩ := row_cell (xs := [_, _]) gC 1 _ rfl
    obtain ⟨r0, _⟩ := row_cell (xs := [_, _]) gD 0 _ rfl
    obtain ⟨r1, _⟩ := row_cell (xs := [_, _]) gD 1 _ rfl
    go_wp2_with fail
    refine (LL1.out _).mono ?_
    rintro e w12 ⟨rfl, k12⟩
    have gA := k12.heap gA id
    have gB := k12.heap gB id
    have gC := k12.heap gC id
    have K12 := K11.then k12
    clear c0 c1 d0 d1 f0 f1 k12
    obtain ⟨c0, _⟩ := row_cell (xs := [_, _]) gA 0 _ rfl
    obtain ⟨c1, _⟩ := row_cell (xs := [_, _]) gA 1 _ rfl
    obtain ⟨d0, _⟩ := row_cell (xs := [_, _]) gB 0 _ rfl
    obtain ⟨d1, _⟩ := row_cell (xs := [_, _]) gB 1 _ rfl
    obtain ⟨f0, _⟩ := row_cell (xs := [_, _]) gC 0 _ rfl
    obtain ⟨f1, _⟩ := row_cell (xs := [_, _]) gC 1 _ rfl
    go_wp2_with fail
    refine (LL5.out _).mono ?_
    rintro e w13 ⟨rfl, k13⟩
    have gA := k13.heap gA id
    have gB := k13.heap gB id
    have gC := k13.heap gC id
    have K13 := K12.then k13
    clear c0 c1 d0 d1 f0 f1 k13
    obtain ⟨c0, _⟩ := row_cell (xs := [_, _]) gA 0 _ rfl
    obtain ⟨c1, _⟩ := row_cell (xs := [_, _]) gA 1 _ rfl
    obtain ⟨d0, _⟩ := row_cell (xs := [_, _]) gB 0 _ rfl
    obtain ⟨d1, _⟩ := row_cell (xs := [_, _]) gB 1 _ rfl
    obtain ⟨f0, _⟩ := row_cell (xs := [_, _]) gC 0 _ rfl
    obtain ⟨f1, _⟩ := row_cell (xs := [_, _]) gC 1 _ rfl
    go_wp2
    go_ret
    exact ⟨rfl, K13.below⟩
  · obtain ⟨c0, _⟩ := row_cell (xs := [_, _]) gA 0 _ rfl
    obtain ⟨c1, _⟩ := row_cell (xs := [_, _]) gA 1 _ rfl
    obtain ⟨d0, _⟩ := row_cell (xs := [_, _]) gB 0 _ rfl
    obtain ⟨d1, _⟩ := row_cell (xs := [_, _]) gB 1 _ rfl
    obtain ⟨f0, _⟩ := row_cell (xs := [_, _]) gC 0 _ rfl
    obtain ⟨f1, _⟩ := row_cell (xs := [_, _]) gC 1 _ rfl
    go_wp2_with fail
    refine (LL1.out _).mono ?_
    rintro e wc ⟨rfl, kc⟩
    have gA := kc.heap gA id
    have gB := kc.heap gB id
    have gC := kc.heap gC id
    have K6 := K5.then kc
    clear c0 c1 d0 d1 f0 f1 kc
    obtain ⟨c0, _⟩ := row_cell (xs := [_, _]) gA 0 _ rfl
    obtain ⟨c1, _⟩ := row_cell (xs := [_, _]) gA 1 _ rfl
    obtain ⟨d0, _⟩ := row_cell (xs := [_, _]) gB 0 _ rfl
    obtain ⟨d1, _⟩ := row_cell (xs := [_, _]) gB 1 _ rfl
    obtain ⟨f0, _⟩ := row_cell (xs := [_, _]) gC 0 _ rfl
    obtain ⟨f1, _⟩ := row_cell (xs := [_, _]) gC 1 _ rfl
    go_wp2_with fail
    refine (LL2.out _).mono ?_
    rintro e wd ⟨rfl, kd⟩
    have gA := kd.heap gA id
    have gB := kd.heap gB id
    have gC := kd.heap gC id
    have K7 := K6.then kd
    clear c0 c1 d0 d1 f0 f1 kd
    obtain ⟨c0, _⟩ := row_cell (xs := [_, _]) gA 0 _ rfl
    obtain ⟨c1, _⟩ := row_cell (xs := [_, _]) gA 1 _ rfl
    obtain ⟨d0, _⟩ := row_cell (xs := [_, _]) gB 0 _ rfl
    obtain ⟨d1, _⟩ := row_cell (xs := [_, _]) gB 1 _ rfl
    obtain ⟨f0, _⟩ := row_cell (xs := [_, _]) gC 0 _ rfl
    obtain ⟨f1, _⟩ := row_cell (xs := [_, _]) gC 1 _ rfl
    go_wp2_with fail
    refine (HBB0.out _).mono ?_
    rintro e we ⟨pb, rfl, _, hb, ke⟩
    have gA := ke.heap gA id
    have gB := ke.heap gB id
    have gC := ke.heap gC id
    have K8 := K7.then ke
    clear c0 c1 d0 d1 f0 f1 ke
    obtain ⟨c0, _⟩ := row_cell (xs := [_, _]) gA 0 _ rfl
    obtain ⟨c1, _⟩ := row_cell (xs := [_, _]) gA 1 _ rfl
    obtain ⟨d0, _⟩ := row_cell (xs := [_, _]) gB 0 _ rfl
    obtain ⟨d1, _⟩ := row_cell (xs := [_, _]) gB 1 _ rfl
    obtain ⟨f0, _⟩ := row_cell (xs := [_, _]) gC 0 _ rfl
    obtain ⟨f1, _⟩ := row_cell (xs := [_, _]) gC 1 _ rfl
    have HP9 := HPP.out _ _ hb
    go_wp2_with fail
    refine HP9.mono ?_
    rintro e wf ⟨rfl, kf⟩
    have gA := kf.heap gA id
    have gB := kf.heap gB id
    have gC := kf.heap gC id
    have K9 := K8.then kf
    have z := lt_of_block gA
    clear HP9 hb c0 c1 d0 d1 f0 f1 kf
    have k10 : Chg no wf (wf.alloc (.cells #[.int .i64 a0, .int .i64 b0] 23)) := (Chg.refl no wf).alloc _
    have gA := k10.heap gA id
    have gB := k10.heap gB id
    have gC := k10.heap gC id
    have gD : (wf.alloc (.cells #[.int .i64 a0, .int .i64 b0] 23)).heap[wf.heap.size]? = some (.cells #[.int .i64 a0, .int .i64 b0] 23 (0, 0)) := heap_alloc_new _ _
    have K10 := K9.then k10
    go_wp2_with fail
    refine (first_any _).mono ?_
    rintro e wg ⟨rfl, kg⟩
    have gA := kg.heap gA id
    have gB := kg.heap gB id
    have gC := kg.heap gC id
    have gD := kg.heap gD id
    have K11 := K10.then kg
    clear kg k10
    obtain ⟨c0, _⟩ := row_cell (xs := [_, _]) gA 0 _ rfl
    obtain ⟨c1, _⟩ := row_cell (xs := [_, _]) gA 1 _ rfl
    obtain ⟨d0, _⟩ := row_cell (xs := [_, _]) gB 0 _ rfl
    obtain ⟨d1, _⟩ := row_cell (xs := [_, _]) gB 1 _ rfl
    obtain ⟨f0, _⟩ := row_cell (xs := [_, _]) gC 0 _ rfl
    obtain ⟨f1, _⟩ := row_cell (xs := [_, _]) gC 1 _ rfl
    obtain ⟨r0, _⟩ := row_cell (xs := [_, _]) gD 0 _ rfl
    obtain ⟨r1, _⟩ := row_cell (xs := [_, _]) gD 1 _ rfl
    go_wp2_with fail
    refine (LL1.out _).mono ?_
    rintro e w12 ⟨rfl, k12⟩
    have gA := k12.heap gA id
    have gB := k12.heap gB id
    have gC := k12.heap gC id
    have K12 := K11.then k12
    clear c0 c1 d0 d1 f0 f1 k12
    obtain ⟨c0, _⟩ := row_cell (xs := [_, _]) gA 0 _ rfl
    obtain ⟨c1, _⟩ := row_cell (xs := [_, _]) gA 1 _ rfl
    obtain ⟨d0, _⟩ := row_cell (xs := [_, _]) gB 0 _ rfl
    obtain ⟨d1, _⟩ := row_cell (xs := [_, _]) gB 1 _ rfl
    obtain ⟨f0, _⟩ := row_cell (xs := [_, _]) gC 0 _ rfl
    obtain ⟨f1, _⟩ := row_cell (xs := [_, _]) gC 1 _ rfl
    go_wp2_with fail
    refine (LL3.out _).mono ?_
    rintro e w13 ⟨rfl, k13⟩
    have gA := k13.heap gA id
    have gB := k13.heap gB id
    have gC := k13.heap gC id
    have K13 := K12.then k13
    clear c0 c1 d0 d1 f0 f1 k13
    obtain ⟨c0, _⟩ := row_cell (xs := [_, _]) gA 0 _ rfl
    obtain ⟨c1, _⟩ := row_cell (xs := [_, _]) gA 1 _ rfl
    obtain ⟨d0, _⟩ := row_cell (xs := [_, _]) gB 0 _ rfl
    obtain ⟨d1, _⟩ := row_cell (xs := [_, _]) gB 1 _ rfl
    obtain ⟨f0, _⟩ := row_cell (xs := [_, _]) gC 0 _ rfl
    obtain ⟨f1, _⟩ := row_cell (xs := [_, _]) gC 1 _ rfl
    go_wp2_with fail
    refine (LL5.out _).mono ?_
    rintro e w14 ⟨rfl, k14⟩
    have gA := k14.heap gA id
    have gB := k14.heap gB id
    have gC := k14.heap gC id
    have K14 := K13.then k14
    clear c0 c1 d0 d1 f0 f1 k14
    obtain ⟨c0, _⟩ := row_cell (xs := [_, _]) gA 0 _ rfl
    obtain ⟨c1, _⟩ := row_cell (xs := [_, _]) gA 1 _ rfl
    obtain ⟨d0, _⟩ := row_cell (xs := [_, _]) gB 0 _ rfl
    obtain ⟨d1, _⟩ := row_cell (xs := [_, _]) gB 1 _ rfl
    obtain ⟨f0, _⟩ := row_cell (xs := [_, _]) gC 0 _ rfl
    obtain ⟨f1, _⟩ := row_cell (xs := [_, _]) gC 1 _ rfl
    go_wp2
    go_ret
    exact ⟨rfl, K14.below⟩
  · obtain ⟨c0, _⟩ := row_cell (xs := [_, _]) gA 0 _ rfl
    obtain ⟨c1, _⟩ := row_cell (xs := [_, _]) gA 1 _ rfl
    obtain ⟨d0, _⟩ := row_cell (xs := [_, _]) gB 0 _ rfl
    obtain ⟨d1, _⟩ := row_cell (xs := [_, _]) gB 1 _ rfl
    obtain ⟨f0, _⟩ := row_cell (xs := [_, _]) gC 0 _ rfl
    obtain ⟨f1, _⟩ := row_cell (xs := [_, _]) gC 1 _ rfl
    go_wp2_with fail
    refine (LL1.out _).mono ?_
    rintro e wc ⟨rfl, kc⟩
    have gA := kc.heap gA id
    have gB := kc.heap gB id
    have gC := kc.heap gC id
    have K6 := K5.then kc
    clear c0 c1 d0 d1 f0 f1 kc
    obtain ⟨c0, _⟩ := row_cell (xs := [_, _]) gA 0 _ rfl
    obtain ⟨c1, _⟩ := row_cell (xs := [_, _]) gA 1 _ rfl
    obtain ⟨d0, _⟩ := row_cell (xs := [_, _]) gB 0 _ rfl
    obtain ⟨d1, _⟩ := row_cell (xs := [_, _]) gB 1 _ rfl
    obtain ⟨f0, _⟩ := row_cell (xs := [_, _]) gC 0 _ rfl
    obtain ⟨f1, _⟩ := row_cell (xs := [_, _]) gC 1 _ rfl
    go_wp2_with fail
    refine (LL2.out _).mono ?_
    rintro e wd ⟨rfl, kd⟩
    have gA := kd.heap gA id
    have gB := kd.heap gB id
    have gC := kd.heap gC id
    have K7 := K6.then kd
    clear c0 c1 d0 d1 f0 f1 kd
    obtain ⟨c0, _⟩ := row_cell (xs := [_, _]) gA 0 _ rfl
    obtain ⟨c1, _⟩ := row_cell (xs := [_, _]) gA 1 _ rfl
    obtain ⟨d0, _⟩ := row_cell (xs := [_, _]) gB 0 _ rfl
    obtain ⟨d1, _⟩ := row_cell (xs := [_, _]) gB 1 _ rfl
    obtain ⟨f0, _⟩ := row_cell (xs := [_, _]) gC 0 _ rfl
    obtain ⟨f1, _⟩ := row_cell (xs := [_, _]) gC 1 _ rfl
    go_wp2_with fail
    refine (HBB0.out _).mono ?_
    rintro e we ⟨pb, rfl, _, hb, ke⟩
    have gA := ke.heap gA id
    have gB := ke.heap gB id
    have gC := ke.heap gC id
    have K8 := K7.then ke
    clear c0 c1 d0 d1 f0 f1 ke
    obtain ⟨c0, _⟩ := row_cell (xs := [_, _]) gA 0 _ rfl
    obtain ⟨c1, _⟩ := row_cell (xs := [_, _]) gA 1 _ rfl
    obtain ⟨d0, _⟩ := row_cell (xs := [_, _]) gB 0 _ rfl
    obtain ⟨d1, _⟩ := row_cell (xs := [_, _]) gB 1 _ rfl
    obtain ⟨f0, _⟩ := row_cell (xs := [_, _]) gC 0 _ rfl
    obtain ⟨f1, _⟩ := row_cell (xs := [_, _]) gC 1 _ rfl
    have HP9 := HPP.out _ _ hb
    go_wp2_with fail
    refine HP9.mono ?_
    rintro e wf ⟨rfl, kf⟩
    have gA := kf.heap gA id
    have gB := kf.heap gB id
    have gC := kf.heap gC id
    have K9 := K8.then kf
    have z := lt_of_block gA
    clear HP9 hb c0 c1 d0 d1 f0 f1 kf
    have k10 : Chg no wf (wf.alloc (.cells #[.int .i64 a0, .int .i64 b0] 23)) := (Chg.refl no wf).alloc _
    have gA := k10.heap gA id
    have gB := k10.heap gB id
    have gC := k10.heap gC id
    have gD : (wf.alloc (.cells #[.int .i64 a0, .int .i64 b0] 23)).heap[wf.heap.size]? = some (.cells #[.int .i64 a0, .int .i64 b0] 23 (0, 0)) := heap_alloc_new _ _
    have K10 := K9.then k10
    go_wp2_with fail
    refine (first_any _).mono ?_
    rintro e wg ⟨rfl, kg⟩
    have gA := kg.heap gA id
    have gB := kg.heap gB id
    have gC := kg.heap gC id
    have gD := kg.heap gD id
    have K11 := K10.then kg
    clear kg k10
    obtain ⟨c0, _⟩ := row_cell (xs := [_, _]) gA 0 _ rfl
    obtain ⟨c1, _⟩ := row_cell (xs := [_, _]) gA 1 _ rfl
    obtain ⟨d0, _⟩ := row_cell (xs := [_, _]) gB 0 _ rfl
    obtain ⟨d1, _⟩ := row_cell (xs := [_, _]) gB 1 _ rfl
    obtain ⟨f0, _⟩ := row_cell (xs := [_, _]) gC 0 _ rfl
    obtain ⟨f1, _⟩ := row_cell (xs := [_, _]) gC 1 _ rfl
    obtain ⟨r0, _⟩ := row_cell (xs := [_, _]) gD 0 _ rfl
    obtain ⟨r1, _⟩ := row_cell (xs := [_, _]) gD 1 _ rfl
    go_wp2_with fail
    refine (LL1.out _).mono ?_
    rintro e w12 ⟨rfl, k12⟩
    have gA := k12.heap gA id
    have gB := k12.heap gB id
    have gC := k12.heap gC id
    have K12 := K11.then k12
    clear c0 c1 d0 d1 f0 f1 k12
    obtain ⟨c0, _⟩ := row_cell (xs := [_, _]) gA 0 _ rfl
    obtain ⟨c1, _⟩ := row_cell (xs := [_, _]) gA 1 _ rfl
    obtain ⟨d0, _⟩ := row_cell (xs := [_, _]) gB 0 _ rfl
    obtain ⟨d1, _⟩ := row_cell (xs := [_, _]) gB 1 _ rfl
    obtain ⟨f0, _⟩ := row_cell (xs := [_, _]) gC 0 _ rfl
    obtain ⟨f1, _⟩ := row_cell (xs := [_, _]) gC 1 _ rfl
    go_wp2_with fail
    refine (LL3.out _).mono ?_
    rintro e w13 ⟨rfl, k13⟩
    have gA := k13.heap gA id
    have gB := k13.heap gB id
    have gC := k13.heap gC id
    have K13 := K12.then k13
    clear c0 c1 d0 d1 f0 f1 k13
    obtain ⟨c0, _⟩ := row_cell (xs := [_, _]) gA 0 _ rfl
    obtain ⟨c1, _⟩ := row_cell (xs := [_, _]) gA 1 _ rfl
    obtain ⟨d0, _⟩ := row_cell (xs := [_, _]) gB 0 _ rfl
    obtain ⟨d1, _⟩ := row_cell (xs := [_, _]) gB 1 _ rfl
    obtain ⟨f0, _⟩ := row_cell (xs := [_, _]) gC 0 _ rfl
    obtain ⟨f1, _⟩ := row_cell (xs := [_, _]) gC 1 _ rfl
    go_wp2_with fail
    refine (LL4.out _).mono ?_
    rintro e w14 ⟨rfl, k14⟩
    have gA := k14.heap gA id
    have gB := k14.heap gB id
    have gC := k14.heap gC id
    have K14 := K13.then k14
    clear c0 c1 d0 d1 f0 f1 k14
    obtain ⟨c0, _⟩ := row_cell (xs := [_, _]) gA 0 _ rfl
    obtain ⟨c1, _⟩ := row_cell (xs := [_, _]) gA 1 _ rfl
    obtain ⟨d0, _⟩ := row_cell (xs := [_, _]) gB 0 _ rfl
    obtain ⟨d1, _⟩ := row_cell (xs := [_, _]) gB 1 _ rfl
    obtain ⟨f0, _⟩ := row_cell (xs := [_, _]) gC 0 _ rfl
    obtain ⟨f1, _⟩ := row_cell (xs := [_, _]) gC 1 _ rfl
    go_wp2_with fail
    refine (LL5.out _).mono ?_
    rintro e w15 ⟨rfl, k15⟩
    have gA := k15.heap gA id
    have gB := k15.heap gB id
    have gC := k15.heap gC id
    have K15 := K14.then k15
    clear c0 c1 d0 d1 f0 f1 k15
    obtain ⟨c0, _⟩ := row_cell (xs := [_, _]) gA 0 _ rfl
    obtain ⟨c1, _⟩ := row_cell (xs := [_, _]) gA 1 _ rfl
    obtain ⟨d0, _⟩ := row_cell (xs := [_, _]) gB 0 _ rfl
    obtain ⟨d1, _⟩ := row_cell (xs := [_, _]) gB 1 _ rfl
    obtain ⟨f0, _⟩ := row_cell (xs := [_, _]) gC 0 _ rfl
    obtain ⟨f1, _⟩ := row_cell (xs := [_, _]) gC 1 _ rfl
    go_wp2
    go_ret
    exact ⟨rfl, K15.below⟩
  · obtain ⟨c0, _⟩ := row_cell (xs := [_, _]) gA 0 _ rfl
    obtain ⟨c1, _⟩ := row_cell (xs := [_, _]) gA 1 _ rfl
    obtain ⟨d0, _⟩ := row_cell (xs := [_, _]) gB 0 _ rfl
    obtain ⟨d1, _⟩ := row_cell (xs := [_, _]) gB 1 _ rfl
    obtain ⟨f0, _⟩ := row_cell (xs := [_, _]) gC 0 _ rfl
    obtain ⟨f1, _⟩ := row_cell (xs := [_, _]) gC 1 _ rfl
    go_wp2_with fail
    refine (LL1.out _).mono ?_
    rintro e wc ⟨rfl, kc⟩
    have gA := kc.heap gA id
    have gB := kc.heap gB id
    have gC := kc.heap gC id
    have K6 := K5.then kc
    clear c0 c1 d0 d1 f0 f1 kc
    obtain ⟨c0, _⟩ := row_cell (xs := [_, _]) gA 0 _ rfl
    obtain ⟨c1, _⟩ := row_cell (xs := [_, _]) gA 1 _ rfl
    obtain ⟨d0, _⟩ := row_cell (xs := [_, _]) gB 0 _ rfl
    obtain ⟨d1, _⟩ := row_cell (xs := [_, _]) gB 1 _ rfl
    obtain ⟨f0, _⟩ := row_cell (xs := [_, _]) gC 0 _ rfl
    obtain ⟨f1, _⟩ := row_cell (xs := [_, _]) gC 1 _ rfl
    go_wp2_with fail
    refine (LL2.out _).mono ?_
    rintro e wd ⟨rfl, kd⟩
    have gA := kd.heap gA id
    have gB := kd.heap gB id
    have gC := kd.heap gC id
    have K7 := K6.then kd
    clear c0 c1 d0 d1 f0 f1 kd
    obtain ⟨c0, _⟩ := row_cell (xs := [_, _]) gA 0 _ rfl
    obtain ⟨c1, _⟩ := row_cell (xs := [_, _]) gA 1 _ rfl
    obtain ⟨d0, _⟩ := row_cell (xs := [_, _]) gB 0 _ rfl
    obtain ⟨d1, _⟩ := row_cell (xs := [_, _]) gB 1 _ rfl
    obtain ⟨f0, _⟩ := row_cell (xs := [_, _]) gC 0 _ rfl
    obtain ⟨f1, _⟩ := row_cell (xs := [_, _]) gC 1 _ rfl
    go_wp2_with fail
    refine (HBB0.out _).mono ?_
    rintro e we ⟨pb, rfl, _, hb, ke⟩
    have gA := ke.heap gA id
    have gB := ke.heap gB id
    have gC := ke.heap gC id
    have K8 := K7.then ke
    clear c0 c1 d0 d1 f0 f1 ke
    obtain ⟨c0, _⟩ := row_cell (xs := [_, _]) gA 0 _ rfl
    obtain ⟨c1, _⟩ := row_cell (xs := [_, _]) gA 1 _ rfl
    obtain ⟨d0, _⟩ := row_cell (xs := [_, _]) gB 0 _ rfl
    obtain ⟨d1, _⟩ := row_cell (xs := [_, _]) gB 1 _ rfl
    obtain ⟨f0, _⟩ := row_cell (xs := [_, _]) gC 0 _ rfl
    obtain ⟨f1, _⟩ := row_cell (xs := [_, _]) gC 1 _ rfl
    have HP9 := HPP.out _ _ hb
    go_wp2_with fail
    refine HP9.mono ?_
    rintro e wf ⟨rfl, kf⟩
    have gA := kf.heap gA id
    have gB := kf.heap gB id
    have gC := kf.heap gC id
    have K9 := K8.then kf
    have z := lt_of_block gA
    clear HP9 hb c0 c1 d0 d1 f0 f1 kf
    have k10 : Chg no wf (wf.alloc (.cells #[.int .i64 a0, .int .i64 b0] 23)) := (Chg.refl no wf).alloc _
    have gA := k10.heap gA id
    have gB := k10.heap gB id
    have gC := k10.heap gC id
    have gD : (wf.alloc (.cells #[.int .i64 a0, .int .i64 b0] 23)).heap[wf.heap.size]? = some (.cells #[.int .i64 a0, .int .i64 b0] 23 (0, 0)) := heap_alloc_new _ _
    have K10 := K9.then k10
    go_wp2_with fail
    refine (first_any _).mono ?_
    rintro e wg ⟨rfl, kg⟩
    have gA := kg.heap gA id
    have gB := kg.heap gB id
    have gC := kg.heap gC id
    have gD := kg.heap gD id
    have K11 := K10.then kg
    clear kg k10
    obtain ⟨c0, _⟩ := row_cell (xs := [_, _]) gA 0 _ rfl
    obtain ⟨c1, _⟩ := row_cell (xs := [_, _]) gA 1 _ rfl
    obtain ⟨d0, _⟩ := row_cell (xs := [_, _]) gB 0 _ rfl
    obtain ⟨d1, _⟩ := row_cell (xs := [_, _]) gB 1 _ rfl
    obtain ⟨f0, _⟩ := row_cell (xs := [_, _]) gC 0 _ rfl
    obtain ⟨f1, _⟩ := row_cell (xs := [_, _]) gC 1 _ rfl
    obtain ⟨r0, _⟩ := row_cell (xs := [_, _]) gD 0 _ rfl
    obtain ⟨r1, _⟩ := row_cell (xs := [_, _]) gD 1 _ rfl
    go_wp2_with fail
    refine (LL1.out _).mono ?_
    rintro e w12 ⟨rfl, k12⟩
    have gA := k12.heap gA id
    have gB := k12.heap gB id
    have gC := k12.heap gC id
    have K12 := K11.then k12
    clear c0 c1 d0 d1 f0 f1 k12
    obtain ⟨c0, _⟩ := row_cell (xs := [_, _]) gA 0 _ rfl
    obtain ⟨c1, _⟩ := row_cell (xs := [_, _]) gA 1 _ rfl
    obtain ⟨d0, _⟩ := row_cell (xs := [_, _]) gB 0 _ rfl
    obtain ⟨d1, _⟩ := row_cell (xs := [_, _]) gB 1 _ rfl
    obtain ⟨f0, _⟩ := row_cell (xs := [_, _]) gC 0 _ rfl
    obtain ⟨f1, _⟩ := row_cell (xs := [_, _]) gC 1 _ rfl
    go_wp2_with fail
    refine (LL5.out _).mono ?_
    rintro e w13 ⟨rfl, k13⟩
    have gA := k13.heap gA id
    have gB := k13.heap gB id
    have gC := k13.heap gC id
    have K13 := K12.then k13
    clear c0 c1 d0 d1 f0 f1 k13
    obtain ⟨c0, _⟩ := row_cell (xs := [_, _]) gA 0 _ rfl
    obtain ⟨c1, _⟩ := row_cell (xs := [_, _]) gA 1 _ rfl
    obtain ⟨d0, _⟩ := row_cell (xs := [_, _]) gB 0 _ rfl
    obtain ⟨d1, _⟩ := row_cell (xs := [_, _]) gB 1 _ rfl
    obtain ⟨f0, _⟩ := row_cell (xs := [_, _]) gC 0 _ rfl
    obtain ⟨f1, _⟩ := row_cell (xs := [_, _]) gC 1 _ rfl
    go_wp2
    go_ret
    exact ⟨rfl, K13.below⟩
  · obtain ⟨c0, _⟩ := row_cell (xs := [_, _]) gA 0 _ rfl
    obtain ⟨c1, _⟩ := row_cell (xs := [_, _]) gA 1 _ rfl
    obtain ⟨d0, _⟩ := row_cell (xs := [_, _]) gB 0 _ rfl
    obtain ⟨d1, _⟩ := row_cell (xs := [_, _]) gB 1 _ rfl
    obtain ⟨f0, _⟩ := row_cell (xs := [_, _]) gC 0 _ rfl
    obtain ⟨f1, _⟩ := row_cell (xs := [_, _]) gC 1 _ rfl
    go_wp2_with fail
    refine (LL1.out _).mono ?_
    rintro e wc ⟨rfl, kc⟩
    have gA := kc.heap gA id
    have gB := kc.heap gB id
    have gC := kc.heap gC id
    have K6 := K5.then kc
    clear c0 c1 d0 d1 f0 f1 kc
    obtain ⟨c0, _⟩ := row_cell (xs := [_, _]) gA 0 _ rfl
    obtain ⟨c1, _⟩ := row_cell (xs := [_, _]) gA 1 _ rfl
    obtain ⟨d0, _⟩ := row_cell (xs := [_, _]) gB 0 _ rfl
    obtain ⟨d1, _⟩ := row_cell (xs := [_, _]) gB 1 _ rfl
    obtain ⟨f0, _⟩ := row_cell (xs := [_, _]) gC 0 _ rfl
    obtain ⟨f1, _⟩ := row_cell (xs := [_, _]) gC 1 _ rfl
    go_wp2_with fail
    refine (LL2.out _).mono ?_
    rintro e wd ⟨rfl, kd⟩
    have gA := kd.heap gA id
    have gB := kd.heap gB id
    have gC := kd.heap gC id
    have K7 := K6.then kd
    clear c0 c1 d0 d1 f0 f1 kd
    obtain ⟨c0, _⟩ := row_cell (xs := [_, _]) gA 0 _ rfl
    obtain ⟨c1, _⟩ := row_cell (xs := [_, _]) gA 1 _ rfl
    obtain ⟨d0, _⟩ := row_cell (xs := [_, _]) gB 0 _ rfl
    obtain ⟨d1, _⟩ := row_cell (xs := [_, _]) gB 1 _ rfl
    obtain ⟨f0, _⟩ := row_cell (xs := [_, _]) gC 0 _ rfl
    obtain ⟨f1, _⟩ := row_cell (xs := [_, _]) gC 1 _ rfl
    go_wp2_with fail
    refine (HBB0.out _).mono ?_
    rintro e we ⟨pb, rfl, _, hb, ke⟩
    have gA := ke.heap gA id
    have gB := ke.heap gB id
    have gC := ke.heap gC id
    have K8 := K7.then ke
    clear c0 c1 d0 d1 f0 f1 ke
    obtain ⟨c0, _⟩ := row_cell (xs := [_, _]) gA 0 _ rfl
    obtain ⟨c1, _⟩ := row_cell (xs := [_, _]) gA 1 _ rfl
    obtain ⟨d0, _⟩ := row_cell (xs := [_, _]) gB 0 _ rfl
    obtain ⟨d1, _⟩ := row_cell (xs := [_, _]) gB 1 _ rfl
    obtain ⟨f0, _⟩ := row_cell (xs := [_, _]) gC 0 _ rfl
    obtain ⟨f1, _⟩ := row_cell (xs := [_, _]) gC 1 _ rfl
    have HP9 := HPP.out _ _ hb
    go_wp2_with fail
    refine HP9.mono ?_
    rintro e wf ⟨rfl, kf⟩
    have gA := kf.heap gA id
    have gB := kf.heap gB id
    have gC := kf.heap gC id
    have K9 := K8.then kf
    have z := lt_of_block gA
    clear HP9 hb c0 c1 d0 d1 f0 f1 kf
    have k10 : Chg no wf (wf.alloc (.cells #[.int .i64 a0, .int .i64 b0] 23)) := (Chg.refl no wf).alloc _
    have gA := k10.heap gA id
    have gB := k10.heap gB id
    have gC := k10.heap gC id
    have gD : (wf.alloc (.cells #[.int .i64 a0, .int .i64 b0] 23)).heap[wf.heap.size]? = some (.cells #[.int .i64 a0, .int .i64 b0] 23 (0, 0)) := heap_alloc_new _ _
    have K10 := K9.then k10
    go_wp2_with fail
    refine (first_any _).mono ?_
    rintro e wg ⟨rfl, kg⟩
    have gA := kg.heap gA id
    have gB := kg.heap gB id
    have gC := kg.heap gC id
    have gD := kg.heap gD id
    have K11 := K10.then kg
    clear kg k10
    obtain ⟨c0, _⟩ := row_cell (xs := [_, _]) gA 0 _ rfl
    obtain ⟨c1, _⟩ := row_cell (xs := [_, _]) gA 1 _ rfl
    obtain ⟨d0, _⟩ := row_cell (xs := [_, _]) gB 0 _ rfl
    obtain ⟨d1, _⟩ := row_cell (xs := [_, _]) gB 1 _ rfl
    obtain ⟨f0, _⟩ := row_cell (xs := [_, _]) gC 0 _ rfl
    obtain ⟨f1, _⟩ := row_cell (xs := [_, _]) gC 1 _ rfl
    obtain ⟨r0, _⟩ := row_cell (xs := [_, _]) gD 0 _ rfl
    obtain ⟨r1, _⟩ := row_cell (xs := [_, _]) gD 1 _ rfl
    go_wp2_with fail
    refine (LL1.out _).mono ?_
    rintro e w12 ⟨rfl, k12⟩
    have gA := k12.heap gA id
    have gB := k12.heap gB id
    have gC := k12.heap gC id
    have K12 := K11.then k12
    clear c0 c1 d0 d1 f0 f1 k12
    obtain ⟨c0, _⟩ := row_cell (xs := [_, _]) gA 0 _ rfl
    obtain ⟨c1, _⟩ := row_cell (xs := [_, _]) gA 1 _ rfl
    obtain ⟨d0, _⟩ := row_cell (xs := [_, _]) gB 0 _ rfl
    obtain ⟨d1, _⟩ := row_cell (xs := [_, _]) gB 1 _ rfl
    obtain ⟨f0, _⟩ := row_cell (xs := [_, _]) gC 0 _ rfl
    obtain ⟨f1, _⟩ := row_cell (xs := [_, _]) gC 1 _ rfl
    go_wp2_with fail
    refine (LL3.out _).mono ?_
    rintro e w13 ⟨rfl, k13⟩
    have gA := k13.heap gA id
    have gB := k13.heap gB id
    have gC := k13.heap gC id
    have K13 := K12.then k13
    clear c0 c1 d0 d1 f0 f1 k13
    obtain ⟨c0, _⟩ := row_cell (xs := [_, _]) gA 0 _ rfl
    obtain ⟨c1, _⟩ := row_cell (xs := [_, _]) gA 1 _ rfl
    obtain ⟨d0, _⟩ := row_cell (xs := [_, _]) gB 0 _ rfl
    obtain ⟨d1, _⟩ := row_cell (xs := [_, _]) gB 1 _ rfl
    obtain ⟨f0, _⟩ := row_cell (xs := [_, _]) gC 0 _ rfl
    obtain ⟨f1, _⟩ := row_cell (xs := [_, _]) gC 1 _ rfl
    go_wp2_with fail
    refine (LL5.out _).mono ?_
    rintro e w14 ⟨rfl, k14⟩
    have gA := k14.heap gA id
    have gB := k14.heap gB id
    have gC := k14.heap gC id
    have K14 := K13.then k14
    clear c0 c1 d0 d1 f0 f1 k14
    obtain ⟨c0, _⟩ := row_cell (xs := [_, _]) gA 0 _ rfl
    obtain ⟨c1, _⟩ := row_cell (xs := [_, _]) gA 1 _ rfl
    obtain ⟨d0, _⟩ := row_cell (xs := [_, _]) gB 0 _ rfl
    obtain ⟨d1, _⟩ := row_cell (xs := [_, _]) gB 1 _ rfl
    obtain ⟨f0, _⟩ := row_cell (xs := [_, _]) gC 0 _ rfl
    obtain ⟨f1, _⟩ := row_cell (xs := [_, _]) gC 1 _ rfl
    go_wp2
    go_ret
    exact ⟨rfl, K14.below⟩
  · obtain ⟨c0, _⟩ := row_cell (xs := [_, _]) gA 0 _ rfl
    obtain ⟨c1, _⟩ := row_cell (xs := [_, _]) gA 1 _ rfl
    obtain ⟨d0, _⟩ := row_cell (xs := [_, _]) gB 0 _ rfl
    obtain ⟨d1, _⟩ := row_cell (xs := [_, _]) gB 1 _ rfl
    obtain ⟨f0, _⟩ := row_cell (xs := [_, _]) gC 0 _ rfl
    obtain ⟨f1, _⟩ := row_cell (xs := [_, _]) gC 1 _ rfl
    go_wp2_with fail
    refine (LL1.out _).mono ?_
    rintro e wc ⟨rfl, kc⟩
    have gA := kc.heap gA id
    have gB := kc.heap gB id
    have gC := kc.heap gC id
    have K6 := K5.then kc
    clear c0 c1 d0 d1 f0 f1 kc
    obtain ⟨c0, _⟩ := row_cell (xs := [_, _]) gA 0 _ rfl
    obtain ⟨c1, _⟩ := row_cell (xs := [_, _]) gA 1 _ rfl
    obtain ⟨d0, _⟩ := row_cell (xs := [_, _]) gB 0 _ rfl
    obtain ⟨d1, _⟩ := row_cell (xs := [_, _]) gB 1 _ rfl
    obtain ⟨f0, _⟩ := row_cell (xs := [_, _]) gC 0 _ rfl
    obtain ⟨f1, _⟩ := row_cell (xs := [_, _]) gC 1 _ rfl
    go_wp2_with fail
    refine (LL2.out _).mono ?_
    rintro e wd ⟨rfl, kd⟩
    have gA := kd.heap gA id
    have gB := kd.heap gB id
    have gC := kd.heap gC id
    have K7 := K6.then kd
    clear c0 c1 d0 d1 f0 f1 kd
    obtain ⟨c0, _⟩ := row_cell (xs := [_, _]) gA 0 _ rfl
    obtain ⟨c1, _⟩ := row_cell (xs := [_, _]) gA 1 _ rfl
    obtain ⟨d0, _⟩ := row_cell (xs := [_, _]) gB 0 _ rfl
    obtain ⟨d1, _⟩ := row_cell (xs := [_, _]) gB 1 _ rfl
    obtain ⟨f0, _⟩ := row_cell (xs := [_, _]) gC 0 _ rfl
    obtain ⟨f1, _⟩ := row_cell (xs := [_, _]) gC 1 _ rfl
    go_wp2_with fail
    refine (HBB0.out _).mono ?_
    rintro e we ⟨pb, rfl, _, hb, ke⟩
    have gA := ke.heap gA id
    have gB := ke.heap gB id
    have gC := ke.heap gC id
    have K8 := K7.then ke
    clear c0 c1 d0 d1 f0 f1 ke
    obtain ⟨c0, _⟩ := row_cell (xs := [_, _]) gA 0 _ rfl
    obtain ⟨c1, _⟩ := row_cell (xs := [_, _]) gA 1 _ rfl
    obtain ⟨d0, _⟩ := row_cell (xs := [_, _]) gB 0 _ rfl
    obtain ⟨d1, _⟩ := row_cell (xs := [_, _]) gB 1 _ rfl
    obtain ⟨f0, _⟩ := row_cell (xs := [_, _]) gC 0 _ rfl
    obtain ⟨f1, _⟩ := row_cell (xs := [_, _]) gC 1 _ rfl
    have HP9 := HPP.out _ _ hb
    go_wp2_with fail
    refine HP9.mono ?_
    rintro e wf ⟨rfl, kf⟩
    have gA := kf.heap gA id
    have gB := kf.heap gB id
    have gC := kf.heap gC id
    have K9 := K8.then kf
    have z := lt_of_block gA
    clear HP9 hb c0 c1 d0 d1 f0 f1 kf
    have k10 : Chg no wf (wf.alloc (.cells #[.int .i64 a0, .int .i64 b0] 23)) := (Chg.refl no wf).alloc _
    have gA := k10.heap gA id
    have gB := k10.heap gB id
    have gC := k10.heap gC id
    have gD : (wf.alloc (.cells #[.int .i64 a0, .int .i64 b0] 23)).heap[wf.heap.size]? = some (.cells #[.int .i64 a0, .int .i64 b0] 23 (0, 0)) := heap_alloc_new _ _
    have K10 := K9.then k10
    go_wp2_with fail
    refine (first_any _).mono ?_
    rintro e wg ⟨rfl, kg⟩
    have gA := kg.heap gA id
    have gB := kg.heap gB id
    have gC := kg.heap gC id
    have gD := kg.heap gD id
    have K11 := K10.then kg
    clear kg k10
    obtain ⟨c0, _⟩ := row_cell (xs := [_, _]) gA 0 _ rfl
    obtain ⟨c1, _⟩ := row_cell (xs := [_, _]) gA 1 _ rfl
    obtain ⟨d0, _⟩ := row_cell (xs := [_, _]) gB 0 _ rfl
    obtain ⟨d1, _⟩ := row_cell (xs := [_, _]) gB 1 _ rfl
    obtain ⟨f0, _⟩ := row_cell (xs := [_, _]) gC 0 _ rfl
    obtain ⟨f1, _⟩ := row_cell (xs := [_, _]) gC 1 _ rfl
    obtain ⟨r0, _⟩ := row_cell (xs := [_, _]) gD 0 _ rfl
    obtain ⟨r1, _⟩ := row_cell (xs := [_, _]) gD 1 _ rfl
    go_wp2_with fail
    refine (LL1.out _).mono ?_
    rintro e w12 ⟨rfl, k12⟩
    have gA := k12.heap gA id
    have gB := k12.heap gB id
    have gC := k12.heap gC id
    have K12 := K11.then k12
    clear c0 c1 d0 d1 f0 f1 k12
    obtain ⟨c0, _⟩ := row_cell (xs := [_, _]) gA 0 _ rfl
    obtain ⟨c1, _⟩ := row_cell (xs := [_, _]) gA 1 _ rfl
    obtain ⟨d0, _⟩ := row_cell (xs := [_, _]) gB 0 _ rfl
    obtain ⟨d1, _⟩ := row_cell (xs := [_, _]) gB 1 _ rfl
    obtain ⟨f0, _⟩ := row_cell (xs := [_, _]) gC 0 _ rfl
    obtain ⟨f1, _⟩ := row_cell (xs := [_, _]) gC 1 _ rfl
    go_wp2_with fail
    refine (LL3.out _).mono ?_
    rintro e w13 ⟨rfl, k13⟩
    have gA := k13.heap gA id
    have gB := k13.heap gB id
    have gC := k13.heap gC id
    have K13 := K12.then k13
    clear c0 c1 d0 d1 f0 f1 k13
    obtain ⟨c0, _⟩ := row_cell (xs := [_, _]) gA 0 _ rfl
    obtain ⟨c1, _⟩ := row_cell (xs := [_, _]) gA 1 _ rfl
    obtain ⟨d0, _⟩ := row_cell (xs := [_, _]) gB 0 _ rfl
    obtain ⟨d1, _⟩ := row_cell (xs := [_, _]) gB 1 _ rfl
    obtain ⟨f0, _⟩ := row_cell (xs := [_, _]) gC 0 _ rfl
    obtain ⟨f1, _⟩ := row_cell (xs := [_, _]) gC 1 _ rfl
    go_wp2_with fail
    refine (LL4.out _).mono ?_
    rintro e w14 ⟨rfl, k14⟩
    have gA := k14.heap gA id
    have gB := k14.heap gB id
    have gC := k14.heap gC id
    have K14 := K13.then k14
    clear c0 c1 d0 d1 f0 f1 k14
    obtain ⟨c0, _⟩ := row_cell (xs := [_, _]) gA 0 _ rfl
    obtain ⟨c1, _⟩ := row_cell (xs := [_, _]) gA 1 _ rfl
    obtain ⟨d0, _⟩ := row_cell (xs := [_, _]) gB 0 _ rfl
    obtain ⟨d1, _⟩ := row_cell (xs := [_, _]) gB 1 _ rfl
    obtain ⟨f0, _⟩ := row_cell (xs := [_, _]) gC 0 _ rfl
    obtain ⟨f1, _⟩ := row_cell (xs := [_, _]) gC 1 _ rfl
    go_wp2_with fail
    refine (LL5.out _).mono ?_
    rintro e w15 ⟨rfl, k15⟩
    have gA := k15.heap gA id
    have gB := k15.heap gB id
    have gC := k15.heap gC id
    have K15 := K14.then k15
    clear c0 c1 d0 d1 f0 f1 k15
    obtain ⟨c0, _⟩ := row_cell (xs := [_, _]) gA 0 _ rfl
    obtain ⟨c1, _⟩ := row_cell (xs := [_, _]) gA 1 _ rfl
    obtain ⟨d0, _⟩ := row_cell (xs := [_, _]) gB 0 _ rfl
    obtain ⟨d1, _⟩ := row_cell (xs := [_, _]) gB 1 _ rfl
    obtain ⟨f0, _⟩ := row_cell (xs := [_, _]) gC 0 _ rfl
    obtain ⟨f1, _⟩ := row_cell (xs := [_, _]) gC 1 _ rfl
    go_wp2
    go_ret
    exact ⟨rfl, K15.below⟩

theorem walk (w : World) (a0 b0 a1 b1 a2 b2 : Int) (w0 : (Lit.int .i64 a0).wf = true) (wb0 : (Lit.int .i64 b0).wf = true) (w1 : (Lit.int .i64 a1).wf = true) (wb1 : (Lit.int .i64 b1).wf = true) (w2 : (Lit.int .i64 a2).wf = true) (wb2 : (Lit.int .i64 b2).wf = true) :
    Calls Try.prog 6 #[nv a0 b0, nv a1 b1, nv a2 b2] w fun e w' => e = .returned (.bool true) ∧ Below w.heap.size w w' := by
  by_cases hh : may a0 b0 = false ∨ may a1 b1 = false ∨ may a2 b2 = false
  · exact early w a0 b0 a1 b1 a2 b2 hh
  · simp only [not_or, Bool.not_eq_false] at hh
    exact late w a0 b0 a1 b1 a2 b2 hh.1 hh.2.1 hh.2.2

theorem own : ownKnob Try.prog.godebug = none := by kernel_rfl
theorem laidOut : laidOutB Try.prog = true := by kernel_rfl

set_option maxRecDepth 100000 in
theorem lifted (os : Os) (started : os.Started) (H : Type) (enc : TypeId × Value → H) :
    ReturnsInHanded {} Try.checked os 6 .any (Rows.nonceOrderSpec.pre6 enc Try.prog Try.f6 Rows.nonceOrderRow.domain false) (Rows.nonceOrderSpec.post enc Try.prog Try.f6 false true false false) := by
  refine returnsInHanded_of_change (C := Try.checked) own started (by kernel_rfl) Try.func6
    (ChangeSpec.witness6 (enc := enc) (C := Try.checked) false ⟨#[], #[.agg #[.int .i64 0, .int .i64 0], .agg #[.int .i64 0, .int .i64 0], .agg #[.int .i64 0, .int .i64 0]], []⟩ 8 (by kernel_rfl) (by kernel_rfl) (by kernel_rfl) (by kernel_rfl)) ?_
  intro W base args ds gs before hval0 hW hcnd _
  have hval : ∀ (j : Nat) t v, Try.f6.params[j]? = some t → args[j]? = some v → Value.okWide Try.prog W .any base t v := hval0
  have hW' := hW
  obtain ⟨p, q, hA0, hV, rfl, hfz, hnd⟩ := hW
  have hA : DataW.TrodAll enc Try.prog W 0 (fun _ => true) true Try.f6.params.toList args.toList ds p := hA0
  rw [Try.params6] at hA hval
  obtain ⟨v0, vs0, d0, ds0, p0, q0, hargs, rfl, rfl, h0, r0⟩ := trodAll_cons hA
  obtain ⟨v1, vs1, d1, ds1, p1, q1, rfl, rfl, rfl, h1, r1⟩ := trodAll_cons r0
  obtain ⟨v2, vs2, d2, ds2, p2, q2, rfl, rfl, rfl, h2, r2⟩ := trodAll_cons r1
  obtain ⟨rfl, rfl, rfl⟩ := trodAll_nil r2
  obtain rfl : args = #[v0, v1, v2] := by cases args; simp_all
  obtain ⟨rfl, rfl⟩ := trodVars_none hV
  obtain ⟨a0, b0, rfl, rfl, rfl, w0, wb0⟩ := open_nonce (hval 0 23 v0 rfl rfl) h0
  obtain ⟨a1, b1, rfl, rfl, rfl, w1, wb1⟩ := open_nonce (hval 1 23 v1 rfl rfl) h1
  obtain ⟨a2, b2, rfl, rfl, rfl, w2, wb2⟩ := open_nonce (hval 2 23 v2 rfl rfl) h2
  clear hA0 hval0
  refine (walk W a0 b0 a1 b1 a2 b2 w0 wb0 w1 wb1 w2 wb2).mono fun e W' ⟨he, bel⟩ => ?_
  subst he
  exact ⟨_, rfl, _, _, _, [], _, [], hW', trodAll_mk1 (shut_bool Try.underlying4 _), (trodAll_cons_mk (shut_nonce w0 wb0) (trodAll_cons_mk (shut_nonce w1 wb1) (trodAll_cons_mk (shut_nonce w2 wb2) trodAll_mk0))), rfl, bel.frame _, fun h => by cases h⟩

theorem over : Rows.nonceOrderRow.holds Try.pinned (OpenSpec.ofChange Rows.nonceOrderSpec) :=
  OpenClaim.holds_of_wide 6 Try.f6 rfl rfl rfl rfl rfl rfl rfl ⟨rfl, rfl, rfl, rfl, rfl⟩ rfl rfl rfl rfl rfl (by kernel_rfl) Try.func6 (by kernel_rfl)
    (of_decide_eq_true (by kernel_rfl)) (by unfold Func.isWrapper; first | (rw [if_pos (by decide +kernel)]; kernel_rfl) | (rw [if_neg (by decide +kernel)]; exact ⟨rfl, rfl⟩))
    (fun os started H enc _ => lifted os started H enc)

theorem proved : Rows.NonceOrderSaid := over
end Go.Proofs.Ythmpkalalceapaa.nonceOrder
namespace Go.Proofs.Ythmpkalalceapaa
theorem nonceOrder_holds : Rows.NonceOrderSaid := nonceOrder.proved
#print axioms nonceOrder_holds
end Go.Proofs.Ythmpkalalceapaa
