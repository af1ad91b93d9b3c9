/-
  Proved: for every two nonces and all bytes the law NonceBytes returns true; no condition.
-/
import Derived.Test.YthmpkalalceapaaArgs
import Derived.Below
namespace Go.Proofs.Ythmpkalalceapaa.nonceBytes
open Go.ChangeShapes Go.WideShapes Go.ChangeAt Go.RowKit Go.Proofs.Ythmpkalalceapaa.hp Go.Proofs.Ythmpkalalceapaa.dg Go.Proofs.Ythmpkalalceapaa.st
set_option linter.unusedVariables false

set_option maxRecDepth 100000 in
set_option maxHeartbeats 2000000 in
theorem early (w : World) (a0 b0 a1 b1 : Int) (x : Option Addr) (len cap : Nat) (hh : 1000 < len) :
    Calls Try.prog 3 #[nv a0 b0, nv a1 b1, .slice x len cap] w fun e w' => e = .returned (.bool true) ∧ Below w.heap.size w w' := by
  have hi : (1000 : Int) < len := by omega
  go_enter Try.func3, Try.ntmps3
  go_wp2_with fail
  refine (first_any _).mono ?_
  rintro e w1 ⟨rfl, k1⟩
  go_wp2_with fail
  refine (first_any _).mono ?_
  rintro e w3 ⟨rfl, k3⟩
  go_wp2
  go_ret
  exact ⟨rfl, (((((Chg.refl no w).alloc _).alloc _).then k1).then k3).below⟩

/-- What both parsers tell. -/
theorem both (w : World) (x : Option Addr) (len cap : Nat) (zs : List Int) (hv : Lies (Old w) w (.slice x len cap) (zs.map (Value.int .u8))) (hb : Bytes zs) (hc : len ≤ cap ∧ cap ≤ maxLen) :
    ∃ X Y er ok, ((er = 0 ∧ ok = true) ∨ (er = 2 ∧ ok = false)) ∧
      (∀ w', Chg no w w' → Calls Try.prog 9 #[.slice x len cap] w' fun e w'' => e = .returned (.tuple #[nv X Y, .int .i64 er]) ∧ Chg no w' w'') ∧
      (∀ w', Chg no w w' → Calls Try.prog 10 #[.slice x len cap] w' fun e w'' => e = .returned (.tuple #[nv X Y, .bool ok]) ∧ Chg no w' w'') := by
  have hlen : len = zs.length := by
    obtain ⟨_, _, e, _⟩ := hv.slice
    simp only [List.length_map, Value.slice.injEq] at e
    exact e.2.1
  by_cases hl : zs.length = 12
  · have hm := hc.2
    unfold maxLen at hm
    rw [hlen, hl] at hv hc ⊢
    cases hM : may (pg zs) (pc zs) with
    | true =>
      refine ⟨pg zs, pc zs, 0, true, .inl ⟨rfl, rfl⟩, fun w' k => ?_, fun w' k => ?_⟩
      · refine (parse_12 w' _ zs (hv.chg k (fun _ _ h => h)) hb hl).mono ?_
        rintro e w'' ⟨h1, _, h3⟩
        exact ⟨h1 hM, h3⟩
      · refine (rparse_12 w' x cap zs (hv.chg k (fun _ _ h => h)) hb hl hc.1 (by omega)).mono ?_
        rintro e w'' ⟨h1, _, h3⟩
        exact ⟨h1 hM, h3⟩
    | false =>
      refine ⟨0, 0, 2, false, .inr ⟨rfl, rfl⟩, fun w' k => ?_, fun w' k => ?_⟩
      · refine (parse_12 w' _ zs (hv.chg k (fun _ _ h => h)) hb hl).mono ?_
        rintro e w'' ⟨_, h2, h3⟩
        exact ⟨h2 hM, h3⟩
      · refine (rparse_12 w' x cap zs (hv.chg k (fun _ _ h => h)) hb hl hc.1 (by omega)).mono ?_
        rintro e w'' ⟨_, h2, h3⟩
        exact ⟨h2 hM, h3⟩
  · exact ⟨0, 0, 2, false, .inr ⟨rfl, rfl⟩, fun w' k => parse_len w' _ zs (hv.chg k (fun _ _ h => h)) hl, fun w' k => rparse_len w' _ zs (hv.chg k (fun _ _ h => h)) hl⟩

set_option maxRecDepth 100000 in
set_option maxHeartbeats 8000000 in
theorem late (w : World) (a0 b0 a1 b1 : Int) (x : Option Addr) (len cap : Nat) (X Y er : Int) (ok : Bool) (hl : len ≤ 1000) (hk : (er = 0 ∧ ok = true) ∨ (er = 2 ∧ ok = false))
    (HP : Hid (∀ w', Chg no w w' → Calls Try.prog 9 #[.slice x len cap] w' fun e w'' => e = .returned (.tuple #[nv X Y, .int .i64 er]) ∧ Chg no w' w''))
    (HQ : Hid (∀ w', Chg no w w' → Calls Try.prog 10 #[.slice x len cap] w' fun e w'' => e = .returned (.tuple #[nv X Y, .bool ok]) ∧ Chg no w' w'')) :
    Calls Try.prog 3 #[nv a0 b0, nv a1 b1, .slice x len cap] w fun e w' => e = .returned (.bool true) ∧ Below w.heap.size w w' := by
  have hi : (len : Int) ≤ 1000 := by omega
  obtain ⟨LB, hLB⟩ : ∃ LB, decide (a0 < a1 ∨ a0 = a1 ∧ b0 < b1) = LB := ⟨_, rfl⟩
  have HL := fun w => less_any w a0 b0 a1 b1
  simp only [hLB] at HL
  have HLL : Hid (∀ w, Calls Try.prog 17 #[nv a0 b0, nv a1 b1] w fun e w' => e = .returned (.bool LB) ∧ Chg no w w') := HL
  obtain ⟨MB, hMB⟩ : ∃ MB, may a0 b0 = MB := ⟨_, rfl⟩
  have HM := fun w => may_any w a0 b0
  have HR := fun w => rmay_any w a0 b0
  simp only [hMB] at HM HR
  have HMM : Hid (∀ w, Calls Try.prog 11 #[nv a0 b0] w fun e w' => e = .returned (.bool MB) ∧ Chg no w w') := HM
  have HRR : Hid (∀ w, Calls Try.prog 13 #[nv a0 b0] w fun e w' => e = .returned (.bool MB) ∧ Chg no w w') := HR
  clear HL HM HR hMB hl
  have hc : (a0 < a1 ∧ LB = true) ∨ (a1 < a0 ∧ (a0 == a1) = false ∧ LB = false) ∨ (a0 = a1 ∧ b0 < b1 ∧ LB = true) ∨ (a0 = a1 ∧ b1 ≤ b0 ∧ LB = false) := by
    rw [← hLB]
    simp only [decide_eq_true_eq, decide_eq_false_iff_not, beq_eq_false_iff_ne]
    omega
  clear hLB
  rcases hk with ⟨rfl, rfl⟩ | ⟨rfl, rfl⟩ <;> rcases hc with ⟨l1, rfl⟩ | ⟨l1, l2, rfl⟩ | ⟨rfl, l2, rfl⟩ | ⟨rfl, l2, rfl⟩
  · go_enter Try.func3, Try.ntmps3
    go_wp2_with fail
    refine (first_any _).mono ?_
    rintro e w1 ⟨rfl, k1⟩
    have K1 : Chg no w w1 := (((Chg.refl no w).alloc _).alloc _).then k1
    have gA : w1.heap[w.heap.size]? = some (.cells #[.int .i64 a0, .int .i64 b0] 23 (0, 0)) := k1.heap (by rw [Below.heap_alloc _ _ _ (by simp)]; exact heap_alloc_new _ _) id
    have gB : w1.heap[w.heap.size + 1]? = some (.cells #[.int .i64 a1, .int .i64 b1] 23 (0, 0)) := k1.heap (by have := heap_alloc_new (w.alloc (.cells #[.int .i64 a0, .int .i64 b0] 23)) (.cells #[.int .i64 a1, .int .i64 b1] 23); rw [show (w.alloc (.cells #[.int .i64 a0, .int .i64 b0] 23)).heap.size = w.heap.size + 1 by simp] at this; exact this) id
    obtain ⟨N, hN⟩ : ∃ N, w.heap.size = N := ⟨_, rfl⟩
    obtain ⟨M, hM⟩ : ∃ M, N + 1 = M := ⟨_, rfl⟩
    simp only [hN, hM] at gA gB ⊢
    have HP1 := HP.out _ K1
    clear k1 HP hM
    go_wp2_with fail
    refine HP1.mono ?_
    rintro e w2 ⟨rfl, k2⟩
    have K3 : Chg no w (w2.alloc (.cells #[.int .i64 X, .int .i64 Y] 23)) := (K1.then k2).alloc _
    have gA2 := k2.heap gA id
    have gB2 := k2.heap gB id
    have HQ1 := HQ.out _ K3
    clear HP1 K1 HQ k2 gA gB
    go_wp2_with fail
    refine HQ1.mono ?_
    rintro e w4 ⟨rfl, k4⟩
    have K4 : Chg no w w4 := K3.then k4
    have k24 : Chg no w2 w4 := ((Chg.refl no w2).alloc _).then k4
    have gA4 := k24.heap gA2 id
    have gB4 := k24.heap gB2 id
    have gX4 : w4.heap[w2.heap.size]? = some (.cells #[.int .i64 X, .int .i64 Y] 23 (0, 0)) := k4.heap (heap_alloc_new _ _) id
    obtain ⟨c0, _⟩ := row_cell (xs := [_, _]) gA4 0 _ rfl
    obtain ⟨c1, _⟩ := row_cell (xs := [_, _]) gA4 1 _ rfl
    obtain ⟨c2, _⟩ := row_cell (xs := [_, _]) gB4 0 _ rfl
    obtain ⟨c3, _⟩ := row_cell (xs := [_, _]) gB4 1 _ rfl
    have lA := lt_of_block gA4
    have lB := lt_of_block gB4
    have k5 : Chg no w4 (w4.alloc (.cells #[.int .i64 X, .int .i64 Y] 29)) := (Chg.refl no w4).alloc _
    have gA5 := k5.heap gA4 id
    have gB5 := k5.heap gB4 id
    have gX5 := k5.heap gX4 id
    have gY5 : (w4.alloc (.cells #[.int .i64 X, .int .i64 Y] 29)).heap[w4.heap.size]? = some (.cells #[.int .i64 X, .int .i64 Y] 29 (0, 0)) := heap_alloc_new _ _
    have K5 := K4.then k5
    clear HQ1 k4 k24 k5 K4 K3 gA2 gB2 gA4 gB4 gX4
    go_wp2_with fail
    obtain ⟨w5, hw5⟩ : ∃ w5, w4.alloc (.cells #[.int .i64 X, .int .i64 Y] 29) = w5 := ⟨_, rfl⟩
    obtain ⟨R, hR⟩ : ∃ R, w2.heap.size = R := ⟨_, rfl⟩
    obtain ⟨S, hS⟩ : ∃ S, w4.heap.size = S := ⟨_, rfl⟩
    simp only [hw5, hR, hS] at gA5 gB5 gX5 gY5 K5 ⊢
    clear hw5 hR hS c0 c1 c2 c3 lA lB
    obtain ⟨pG, hpG⟩ : ∃ pG : World → Prop, ∀ w', pG w' ↔ Chg no w5 w' := ⟨_, fun _ => Iff.rfl⟩
    have xA0 : ∀ x' : far.InC pG, x'.w.cell? ⟨N, 0, none⟩ = some (.int .i64 a0) := fun x => (row_cell (xs := [_, _]) (((hpG _).1 x.h).heap gA5 id) 0 _ rfl).1
    have xA1 : ∀ x' : far.InC pG, x'.w.cell? ⟨N, 1, none⟩ = some (.int .i64 b0) := fun x => (row_cell (xs := [_, _]) (((hpG _).1 x.h).heap gA5 id) 1 _ rfl).1
    have xB0 : ∀ x' : far.InC pG, x'.w.cell? ⟨M, 0, none⟩ = some (.int .i64 a1) := fun x => (row_cell (xs := [_, _]) (((hpG _).1 x.h).heap gB5 id) 0 _ rfl).1
    have xB1 : ∀ x' : far.InC pG, x'.w.cell? ⟨M, 1, none⟩ = some (.int .i64 b1) := fun x => (row_cell (xs := [_, _]) (((hpG _).1 x.h).heap gB5 id) 1 _ rfl).1
    have xX0 : ∀ x' : far.InC pG, x'.w.cell? ⟨R, 0, none⟩ = some (.int .i64 X) := fun x => (row_cell (xs := [_, _]) (((hpG _).1 x.h).heap gX5 id) 0 _ rfl).1
    have xX1 : ∀ x' : far.InC pG, x'.w.cell? ⟨R, 1, none⟩ = some (.int .i64 Y) := fun x => (row_cell (xs := [_, _]) (((hpG _).1 x.h).heap gX5 id) 1 _ rfl).1
    have xY0 : ∀ x' : far.InC pG, x'.w.cell? ⟨S, 0, none⟩ = some (.int .i64 X) := fun x => (row_cell (xs := [_, _]) (((hpG _).1 x.h).heap gY5 id) 0 _ rfl).1
    have xY1 : ∀ x' : far.InC pG, x'.w.cell? ⟨S, 1, none⟩ = some (.int .i64 Y) := fun x => (row_cell (xs := [_, _]) (((hpG _).1 x.h).heap gY5 id) 1 _ rfl).1
    have iG : Nonempty (far.InC pG) := ⟨⟨w5, (hpG _).2 (Chg.refl _ _)⟩⟩
    have HpG : Hid (∀ w', pG w' ↔ Chg no w5 w') := hpG
    have Z0 : Chg no w5 w5.drew := (Chg.refl no w5).drew
    clear hpG gA5 gB5 gX5 gY5
    refine far.region_farM (fun κ w' => pG w') [0, 3, 5, 6, 11, 13, 14, 15, 19, 39] (by kernel_rfl) (by kernel_rfl) ((HpG.out _).2 Z0) ?_
    intro L e1' e2' e3'
    refine far.farO_enter e1' e2' 0 rfl rfl 8 #[] (by kernel_rfl) (by kernel_rfl) ?_
    refine (first_any _).mono ?_
    rintro e wa ⟨rfl, ka⟩
    have Ka := Z0.then ka
    refine ⟨_, rfl, (HpG.out _).2 Ka, ?_⟩
    simp only [Act.put, List.setIfInBounds_toArray, List.set_cons_succ, List.set_cons_zero, Nat.reduceAdd]
    refine far.farO_stretch pG 2 0 1 e1' e2' e3' (by kernel_rfl) (by kernel_rfl) (fun κ w' hk1 hk2 hC => hC) ?_
    simp only [List.take_succ_cons, List.take_zero, List.drop_succ_cons, List.drop_zero, Nat.reduceAdd]
    repeat (go_big_quiet_step (fail))
    refine wpQuiet_nil ?_
    refine far.farO_enter e1' e2' 1 rfl rfl 11 #[nv a0 b0] (by kernel_rfl) (by kernel_rfl) ?_
    refine (HMM.out _).mono ?_
    rintro e wb ⟨rfl, kb⟩
    have Kb := Ka.then kb
    refine ⟨_, rfl, (HpG.out _).2 Kb, ?_⟩
    simp only [Act.put, List.setIfInBounds_toArray, List.set_cons_succ, List.set_cons_zero, Nat.reduceAdd]
    refine far.farO_stretch pG 1 0 2 e1' e2' e3' (by kernel_rfl) (by kernel_rfl) (fun κ w' hk1 hk2 hC => hC) ?_
    simp only [List.take_succ_cons, List.take_zero, List.drop_succ_cons, List.drop_zero, Nat.reduceAdd]
    repeat (go_big_quiet_step (fail))
    refine wpQuiet_nil ?_
    refine far.farO_enter e1' e2' 2 rfl rfl 12 #[nv a0 b0] (by kernel_rfl) (by kernel_rfl) ?_
    refine (plain_any _ a0 b0).mono ?_
    rintro e wc ⟨rfl, kc⟩
    have Kc := Kb.then kc
    refine ⟨_, rfl, (HpG.out _).2 Kc, ?_⟩
    simp only [Act.put, List.setIfInBounds_toArray, List.set_cons_succ, List.set_cons_zero, Nat.reduceAdd]
    refine far.farO_enter e1' e2' 3 rfl rfl 13 #[nv a0 b0] (by kernel_rfl) (by kernel_rfl) ?_
    refine (HRR.out _).mono ?_
    rintro e wd ⟨rfl, kd⟩
    have Kd := Kc.then kd
    refine ⟨_, rfl, (HpG.out _).2 Kd, ?_⟩
    simp only [Act.put, List.setIfInBounds_toArray, List.set_cons_succ, List.set_cons_zero, Nat.reduceAdd]
    refine far.farO_stretch pG 4 0 4 e1' e2' e3' (by kernel_rfl) (by kernel_rfl) (fun κ w' hk1 hk2 hC => hC) ?_
    simp only [List.take_succ_cons, List.take_zero, List.drop_succ_cons, List.drop_zero, Nat.reduceAdd]
    repeat (go_big_quiet_step (fail))
    refine wpQuiet_nil ?_
    refine far.farO_enter e1' e2' 4 rfl rfl 15 #[nv a0 b0] (by kernel_rfl) (by kernel_rfl) ?_
    refine (bytes_any _ a0 b0).mono ?_
    rintro e we ⟨b, rfl, _, hb2, ke⟩
    have Ke := Kd.then ke
    refine ⟨_, rfl, (HpG.out _).2 Ke, ?_⟩
    simp only [Act.put, List.setIfInBounds_toArray, List.set_cons_succ, List.set_cons_zero, Nat.reduceAdd]
    refine far.farO_stretch pG 1 0 5 e1' e2' e3' (by kernel_rfl) (by kernel_rfl) (fun κ w' hk1 hk2 hC => hC) ?_
    simp only [List.take_succ_cons, List.take_zero, List.drop_succ_cons, List.drop_zero, Nat.reduceAdd]
    repeat (go_big_quiet_step (fail))
    refine wpQuiet_nil ?_
    refine far.farO_enter e1' e2' 5 rfl rfl 12 #[nv a0 b0] (by kernel_rfl) (by kernel_rfl) ?_
    refine (plain_any _ a0 b0).mono ?_
    rintro e wf ⟨rfl, kf⟩
    have Kf := Ke.then kf
    have hb3 := kf.heap hb2 id
    refine ⟨_, rfl, (HpG.out _).2 Kf, ?_⟩
    simp only [Act.put, List.setIfInBounds_toArray, List.set_cons_succ, List.set_cons_zero, Nat.reduceAdd]
    refine far.farO_enter e1' e2' 6 rfl rfl 16 #[nv a0 b0] (by kernel_rfl) (by kernel_rfl) ?_
    refine (rbytes_any _ a0 b0).mono ?_
    rintro e wg ⟨y, cy, J, rfl, hL, kg⟩
    have Kg := Kf.then kg
    have q1 := block_lies (kg.heap hb3 id)
    rw [nbs_length] at q1
    have BY := bytes_same q1 hL
    refine ⟨_, rfl, (HpG.out _).2 Kg, ?_⟩
    simp only [Act.put, List.setIfInBounds_toArray, List.set_cons_succ, List.set_cons_zero, Nat.reduceAdd]
    refine far.farO_enter e1' e2' 7 rfl rfl 14 #[.slice (some ⟨b, 0, none⟩) 12 12, .slice y 12 cy] (by kernel_rfl) (by kernel_rfl) ?_
    refine (BY).mono ?_
    rintro e wh ⟨rfl, rfl⟩
    refine ⟨_, rfl, (HpG.out _).2 Kg, ?_⟩
    simp only [Act.put, List.setIfInBounds_toArray, List.set_cons_succ, List.set_cons_zero, Nat.reduceAdd]
    refine far.farO_stretch pG 3 0 8 e1' e2' e3' (by kernel_rfl) (by kernel_rfl) (fun κ w' hk1 hk2 hC => hC) ?_
    simp only [List.take_succ_cons, List.take_zero, List.drop_succ_cons, List.drop_zero, Nat.reduceAdd]
    repeat (go_big_quiet_step (fail))
    refine wpQuiet_nil ?_
    refine far.farO_enter e1' e2' 8 rfl rfl 12 #[nv X Y] (by kernel_rfl) (by kernel_rfl) ?_
    refine (plain_any _ X Y).mono ?_
    rintro e wi ⟨rfl, ki⟩
    have Ki := Kg.then ki
    refine ⟨_, rfl, (HpG.out _).2 Ki, ?_⟩
    simp only [Act.put, List.setIfInBounds_toArray, List.set_cons_succ, List.set_cons_zero, Nat.reduceAdd]
    refine far.farO_stretch pG 19 0 9 e1' e2' e3' (by kernel_rfl) (by kernel_rfl) (fun κ w' hk1 hk2 hC => hC) ?_
    simp only [List.take_succ_cons, List.take_zero, List.drop_succ_cons, List.drop_zero, Nat.reduceAdd]
    repeat (go_big_quiet_step (fail))
    refine wpQuiet_nil ?_
    refine far.farO_enter e1' e2' 9 rfl rfl 17 #[nv a0 b0, nv a1 b1] (by kernel_rfl) (by kernel_rfl) ?_
    refine (HLL.out _).mono ?_
    rintro e wj ⟨rfl, kj⟩
    have Kj := Ki.then kj
    refine ⟨_, rfl, (HpG.out _).2 Kj, ?_⟩
    simp only [Act.put, List.setIfInBounds_toArray, List.set_cons_succ, List.set_cons_zero, Nat.reduceAdd]
    refine far.farO_stretch pG 4 0 10 e1' e2' e3' (by kernel_rfl) (by kernel_rfl) (fun κ w' hk1 hk2 hC => hC) ?_
    simp only [List.take_succ_cons, List.take_zero, List.drop_succ_cons, List.drop_zero, Nat.reduceAdd]
    repeat (go_big_quiet_step (fail))
    refine wpQuiet_nil ?_
    refine far.farO_nil ?_
    clear xA0 xA1 xB0 xB1 xX0 xX1 xY0 xY1 iG HpG BY q1 hL hb2 hb3
    go_wp2
    go_ret
    exact ⟨by first | rfl | exact ret_bool (by simp; omega), (K5.then Kj).below⟩
  · go_enter Try.func3, Try.ntmps3
    go_wp2_with fail
    refine (first_any _).mono ?_
    rintro e w1 ⟨rfl, k1⟩
    have K1 : Chg no w w1 := (((Chg.refl no w).alloc _).alloc _).then k1
    have gA : w1.heap[w.heap.size]? = some (.cells #[.int .i64 a0, .int .i64 b0] 23 (0, 0)) := k1.heap (by rw [Below.heap_alloc _ _ _ (by simp)]; exact heap_alloc_new _ _) id
    have gB : w1.heap[w.heap.size + 1]? = some (.cells #[.int .i64 a1, .int .i64 b1] 23 (0, 0)) := k1.heap (by have := heap_alloc_new (w.alloc (.cells #[.int .i64 a0, .int .i64 b0] 23)) (.cells #[.int .i64 a1, .int .i64 b1] 23); rw [show (w.alloc (.cells #[.int .i64 a0, .int .i64 b0] 23)).heap.size = w.heap.size + 1 by simp] at this; exact this) id
    obtain ⟨N, hN⟩ : ∃ N, w.heap.size = N := ⟨_, rfl⟩
    obtain ⟨M, hM⟩ : ∃ M, N + 1 = M := ⟨_, rfl⟩
    simp only [hN, hM] at gA gB ⊢
    have HP1 := HP.out _ K1
    clear k1 HP hM
    go_wp2_with fail
    refine HP1.mono ?_
    rintro e w2 ⟨rfl, k2⟩
    have K3 : Chg no w (w2.alloc (.cells #[.int .i64 X, .int .i64 Y] 23)) := (K1.then k2).alloc _
    have gA2 := k2.heap gA id
    have gB2 := k2.heap gB id
    have HQ1 := HQ.out _ K3
    clear HP1 K1 HQ k2 gA gB
    go_wp2_with fail
    refine HQ1.mono ?_
    rintro e w4 ⟨rfl, k4⟩
    have K4 : Chg no w w4 := K3.then k4
    have k24 : Chg no w2 w4 := ((Chg.refl no w2).alloc _).then k4
    have gA4 := k24.heap gA2 id
    have gB4 := k24.heap gB2 id
    have gX4 : w4.heap[w2.heap.size]? = some (.cells #[.int .i64 X, .int .i64 Y] 23 (0, 0)) := k4.heap (heap_alloc_new _ _) id
    obtain ⟨c0, _⟩ := row_cell (xs := [_, _]) gA4 0 _ rfl
    obtain ⟨c1, _⟩ := row_cell (xs := [_, _]) gA4 1 _ rfl
    obtain ⟨c2, _⟩ := row_cell (xs := [_, _]) gB4 0 _ rfl
    obtain ⟨c3, _⟩ := row_cell (xs := [_, _]) gB4 1 _ rfl
    have lA := lt_of_block gA4
    have lB := lt_of_block gB4
    have k5 : Chg no w4 (w4.alloc (.cells #[.int .i64 X, .int .i64 Y] 29)) := (Chg.refl no w4).alloc _
    have gA5 := k5.heap gA4 id
    have gB5 := k5.heap gB4 id
    have gX5 := k5.heap gX4 id
    have gY5 : (w4.alloc (.cells #[.int .i64 X, .int .i64 Y] 29)).heap[w4.heap.size]? = some (.cells #[.int .i64 X, .int .i64 Y] 29 (0, 0)) := heap_alloc_new _ _
    have K5 := K4.then k5
    clear HQ1 k4 k24 k5 K4 K3 gA2 gB2 gA4 gB4 gX4
    go_wp2_with fail
    obtain ⟨w5, hw5⟩ : ∃ w5, w4.alloc (.cells #[.int .i64 X, .int .i64 Y] 29) = w5 := ⟨_, rfl⟩
    obtain ⟨R, hR⟩ : ∃ R, w2.heap.size = R := ⟨_, rfl⟩
    obtain ⟨S, hS⟩ : ∃ S, w4.heap.size = S := ⟨_, rfl⟩
    simp only [hw5, hR, hS] at gA5 gB5 gX5 gY5 K5 ⊢
    clear hw5 hR hS c0 c1 c2 c3 lA lB
    obtain ⟨pG, hpG⟩ : ∃ pG : World → Prop, ∀ w', pG w' ↔ Chg no w5 w' := ⟨_, fun _ => Iff.rfl⟩
    have xA0 : ∀ x' : far.InC pG, x'.w.cell? ⟨N, 0, none⟩ = some (.int .i64 a0) := fun x => (row_cell (xs := [_, _]) (((hpG _).1 x.h).heap gA5 id) 0 _ rfl).1
    have xA1 : ∀ x' : far.InC pG, x'.w.cell? ⟨N, 1, none⟩ = some (.int .i64 b0) := fun x => (row_cell (xs := [_, _]) (((hpG _).1 x.h).heap gA5 id) 1 _ rfl).1
    have xB0 : ∀ x' : far.InC pG, x'.w.cell? ⟨M, 0, none⟩ = some (.int .i64 a1) := fun x => (row_cell (xs := [_, _]) (((hpG _).1 x.h).heap gB5 id) 0 _ rfl).1
    have xB1 : ∀ x' : far.InC pG, x'.w.cell? ⟨M, 1, none⟩ = some (.int .i64 b1) := fun x => (row_cell (xs := [_, _]) (((hpG _).1 x.h).heap gB5 id) 1 _ rfl).1
    have xX0 : ∀ x' : far.InC pG, x'.w.cell? ⟨R, 0, none⟩ = some (.int .i64 X) := fun x => (row_cell (xs := [_, _]) (((hpG _).1 x.h).heap gX5 id) 0 _ rfl).1
    have xX1 : ∀ x' : far.InC pG, x'.w.cell? ⟨R, 1, none⟩ = some (.int .i64 Y) := fun x => (row_cell (xs := [_, _]) (((hpG _).1 x.h).heap gX5 id) 1 _ rfl).1
    have xY0 : ∀ x' : far.InC pG, x'.w.cell? ⟨S, 0, none⟩ = some (.int .i64 X) := fun x => (row_cell (xs := [_, _]) (((hpG _).1 x.h).heap gY5 id) 0 _ rfl).1
    have xY1 : ∀ x' : far.InC pG, x'.w.cell? ⟨S, 1, none⟩ = some (.int .i64 Y) := fun x => (row_cell (xs := [_, _]) (((hpG _).1 x.h).heap gY5 id) 1 _ rfl).1
    have iG : Nonempty (far.InC pG) := ⟨⟨w5, (hpG _).2 (Chg.refl _ _)⟩⟩
    have HpG : Hid (∀ w', pG w' ↔ Chg no w5 w') := hpG
    have Z0 : Chg no w5 w5.drew := (Chg.refl no w5).drew
    clear hpG gA5 gB5 gX5 gY5
    refine far.region_farM (fun κ w' => pG w') [0, 3, 5, 6, 11, 13, 14, 15, 19, 39] (by kernel_rfl) (by kernel_rfl) ((HpG.out _).2 Z0) ?_
    intro L e1' e2' e3'
    refine far.farO_enter e1' e2' 0 rfl rfl 8 #[] (by kernel_rfl) (by kernel_rfl) ?_
    refine (first_any _).mono ?_
    rintro e wa ⟨rfl, ka⟩
    have Ka := Z0.then ka
    refine ⟨_, rfl, (HpG.out _).2 Ka, ?_⟩
    simp only [Act.put, List.setIfInBounds_toArray, List.set_cons_succ, List.set_cons_zero, Nat.reduceAdd]
    refine far.farO_stretch pG 2 0 1 e1' e2' e3' (by kernel_rfl) (by kernel_rfl) (fun κ w' hk1 hk2 hC => hC) ?_
    simp only [List.take_succ_cons, List.take_zero, List.drop_succ_cons, List.drop_zero, Nat.reduceAdd]
    repeat (go_big_quiet_step (fail))
    refine wpQuiet_nil ?_
    refine far.farO_enter e1' e2' 1 rfl rfl 11 #[nv a0 b0] (by kernel_rfl) (by kernel_rfl) ?_
    refine (HMM.out _).mono ?_
    rintro e wb ⟨rfl, kb⟩
    have Kb := Ka.then kb
    refine ⟨_, rfl, (HpG.out _).2 Kb, ?_⟩
    simp only [Act.put, List.setIfInBounds_toArray, List.set_cons_succ, List.set_cons_zero, Nat.reduceAdd]
    refine far.farO_stretch pG 1 0 2 e1' e2' e3' (by kernel_rfl) (by kernel_rfl) (fun κ w' hk1 hk2 hC => hC) ?_
    simp only [List.take_succ_cons, List.take_zero, List.drop_succ_cons, List.drop_zero, Nat.reduceAdd]
    repeat (go_big_quiet_step (fail))
    refine wpQuiet_nil ?_
    refine far.farO_enter e1' e2' 2 rfl rfl 12 #[nv a0 b0] (by kernel_rfl) (by kernel_rfl) ?_
    refine (plain_any _ a0 b0).mono ?_
    rintro e wc ⟨rfl, kc⟩
    have Kc := Kb.then kc
    refine ⟨_, rfl, (HpG.out _).2 Kc, ?_⟩
    simp only [Act.put, List.setIfInBounds_toArray, List.set_cons_succ, List.set_cons_zero, Nat.reduceAdd]
    refine far.farO_enter e1' e2' 3 rfl rfl 13 #[nv a0 b0] (by kernel_rfl) (by kernel_rfl) ?_
    refine (HRR.out _).mono ?_
    rintro e wd ⟨rfl, kd⟩
    have Kd := Kc.then kd
    refine ⟨_, rfl, (HpG.out _).2 Kd, ?_⟩
    simp only [Act.put, List.setIfInBounds_toArray, List.set_cons_succ, List.set_cons_zero, Nat.reduceAdd]
    refine far.farO_stretch pG 4 0 4 e1' e2' e3' (by kernel_rfl) (by kernel_rfl) (fun κ w' hk1 hk2 hC => hC) ?_
    simp only [List.take_succ_cons, List.take_zero, List.drop_succ_cons, List.drop_zero, Nat.reduceAdd]
    repeat (go_big_quiet_step (fail))
    refine wpQuiet_nil ?_
    refine far.farO_enter e1' e2' 4 rfl rfl 15 #[nv a0 b0] (by kernel_rfl) (by kernel_rfl) ?_
    refine (bytes_any _ a0 b0).mono ?_
    rintro e we ⟨b, rfl, _, hb2, ke⟩
    have Ke := Kd.then ke
    refine ⟨_, rfl, (HpG.out _).2 Ke, ?_⟩
    simp only [Act.put, List.setIfInBounds_toArray, List.set_cons_succ, List.set_cons_zero, Nat.reduceAdd]
    refine far.farO_stretch pG 1 0 5 e1' e2' e3' (by kernel_rfl) (by kernel_rfl) (fun κ w' hk1 hk2 hC => hC) ?_
    simp only [List.take_succ_cons, List.take_zero, List.drop_succ_cons, List.drop_zero, Nat.reduceAdd]
    repeat (go_big_quiet_step (fail))
    refine wpQuiet_nil ?_
    refine far.farO_enter e1' e2' 5 rfl rfl 12 #[nv a0 b0] (by kernel_rfl) (by kernel_rfl) ?_
    refine (plain_any _ a0 b0).mono ?_
    rintro e wf ⟨rfl, kf⟩
    have Kf := Ke.then kf
    have hb3 := kf.heap hb2 id
    refine ⟨_, rfl, (HpG.out _).2 Kf, ?_⟩
    simp only [Act.put, List.setIfInBounds_toArray, List.set_cons_succ, List.set_cons_zero, Nat.reduceAdd]
    refine far.farO_enter e1' e2' 6 rfl rfl 16 #[nv a0 b0] (by kernel_rfl) (by kernel_rfl) ?_
    refine (rbytes_any _ a0 b0).mono ?_
    rintro e wg ⟨y, cy, J, rfl, hL, kg⟩
    have Kg := Kf.then kg
    have q1 := block_lies (kg.heap hb3 id)
    rw [nbs_length] at q1
    have BY := bytes_same q1 hL
    refine ⟨_, rfl, (HpG.out _).2 Kg, ?_⟩
    simp only [Act.put, List.setIfInBounds_toArray, List.set_cons_succ, List.set_cons_zero, Nat.reduceAdd]
    refine far.farO_enter e1' e2' 7 rfl rfl 14 #[.slice (some ⟨b, 0, none⟩) 12 12, .slice y 12 cy] (by kernel_rfl) (by kernel_rfl) ?_
    refine (BY).mono ?_
    rintro e wh ⟨rfl, rfl⟩
    refine ⟨_, rfl, (HpG.out _).2 Kg, ?_⟩
    simp only [Act.put, List.setIfInBounds_toArray, List.set_cons_succ, List.set_cons_zero, Nat.reduceAdd]
    refine far.farO_stretch pG 3 0 8 e1' e2' e3' (by kernel_rfl) (by kernel_rfl) (fun κ w' hk1 hk2 hC => hC) ?_
    simp only [List.take_succ_cons, List.take_zero, List.drop_succ_cons, List.drop_zero, Nat.reduceAdd]
    repeat (go_big_quiet_step (fail))
    refine wpQuiet_nil ?_
    refine far.farO_enter e1' e2' 8 rfl rfl 12 #[nv X Y] (by kernel_rfl) (by kernel_rfl) ?_
    refine (plain_any _ X Y).mono ?_
    rintro e wi ⟨rfl, ki⟩
    have Ki := Kg.then ki
    refine ⟨_, rfl, (HpG.out _).2 Ki, ?_⟩
    simp only [Act.put, List.setIfInBounds_toArray, List.set_cons_succ, List.set_cons_zero, Nat.reduceAdd]
    refine far.farO_stretch pG 19 0 9 e1' e2' e3' (by kernel_rfl) (by kernel_rfl) (fun κ w' hk1 hk2 hC => hC) ?_
    simp only [List.take_succ_cons, List.take_zero, List.drop_succ_cons, List.drop_zero, Nat.reduceAdd]
    repeat (go_big_quiet_step (fail))
    refine wpQuiet_nil ?_
    refine far.farO_enter e1' e2' 9 rfl rfl 17 #[nv a0 b0, nv a1 b1] (by kernel_rfl) (by kernel_rfl) ?_
    refine (HLL.out _).mono ?_
    rintro e wj ⟨rfl, kj⟩
    have Kj := Ki.then kj
    refine ⟨_, rfl, (HpG.out _).2 Kj, ?_⟩
    simp only [Act.put, List.setIfInBounds_toArray, List.set_cons_succ, List.set_cons_zero, Nat.reduceAdd]
    refine far.farO_stretch pG 4 0 10 e1' e2' e3' (by kernel_rfl) (by kernel_rfl) (fun κ w' hk1 hk2 hC => hC) ?_
    simp only [List.take_succ_cons, List.take_zero, List.drop_succ_cons, List.drop_zero, Nat.reduceAdd]
    repeat (go_big_quiet_step (fail))
    refine wpQuiet_nil ?_
    refine far.farO_nil ?_
    clear xA0 xA1 xB0 xB1 xX0 xX1 xY0 xY1 iG HpG BY q1 hL hb2 hb3
    go_wp2
    go_ret
    exact ⟨by first | rfl | exact ret_bool (by simp; omega), (K5.then Kj).below⟩
  · go_enter Try.func3, Try.ntmps3
    go_wp2_with fail
    refine (first_any _).mono ?_
    rintro e w1 ⟨rfl, k1⟩
    have K1 : Chg no w w1 := (((Chg.refl no w).alloc _).alloc _).then k1
    have gA : w1.heap[w.heap.size]? = some (.cells #[.int .i64 a0, .int .i64 b0] 23 (0, 0)) := k1.heap (by rw [Below.heap_alloc _ _ _ (by simp)]; exact heap_alloc_new _ _) id
    have gB : w1.heap[w.heap.size + 1]? = some (.cells #[.int .i64 a0, .int .i64 b1] 23 (0, 0)) := k1.heap (by have := heap_alloc_new (w.alloc (.cells #[.int .i64 a0, .int .i64 b0] 23)) (.cells #[.int .i64 a0, .int .i64 b1] 23); rw [show (w.alloc (.cells #[.int .i64 a0, .int .i64 b0] 23)).heap.size = w.heap.size + 1 by simp] at this; exact this) id
    obtain ⟨N, hN⟩ : ∃ N, w.heap.size = N := ⟨_, rfl⟩
    obtain ⟨M, hM⟩ : ∃ M, N + 1 = M := ⟨_, rfl⟩
    simp only [hN, hM] at gA gB ⊢
    have HP1 := HP.out _ K1
    clear k1 HP hM
    go_wp2_with fail
    refine HP1.mono ?_
    rintro e w2 ⟨rfl, k2⟩
    have K3 : Chg no w (w2.alloc (.cells #[.int .i64 X, .int .i64 Y] 23)) := (K1.then k2).alloc _
    have gA2 := k2.heap gA id
    have gB2 := k2.heap gB id
    have HQ1 := HQ.out _ K3
    clear HP1 K1 HQ k2 gA gB
    go_wp2_with fail
    refine HQ1.mono ?_
    rintro e w4 ⟨rfl, k4⟩
    have K4 : Chg no w w4 := K3.then k4
    have k24 : Chg no w2 w4 := ((Chg.refl no w2).alloc _).then k4
    have gA4 := k24.heap gA2 id
    have gB4 := k24.heap gB2 id
    have gX4 : w4.heap[w2.heap.size]? = some (.cells #[.int .i64 X, .int .i64 Y] 23 (0, 0)) := k4.heap (heap_alloc_new _ _) id
    obtain ⟨c0, _⟩ := row_cell (xs := [_, _]) gA4 0 _ rfl
    obtain ⟨c1, _⟩ := row_cell (xs := [_, _]) gA4 1 _ rfl
    obtain ⟨c2, _⟩ := row_cell (xs := [_, _]) gB4 0 _ rfl
    obtain ⟨c3, _⟩ := row_cell (xs := [_, _]) gB4 1 _ rfl
    have lA := lt_of_block gA4
    have lB := lt_of_block gB4
    have k5 : Chg no w4 (w4.alloc (.cells #[.int .i64 X, .int .i64 Y] 29)) := (Chg.refl no w4).alloc _
    have gA5 := k5.heap gA4 id
    have gB5 := k5.heap gB4 id
    have gX5 := k5.heap gX4 id
    have gY5 : (w4.alloc (.cells #[.int .i64 X, .int .i64 Y] 29)).heap[w4.heap.size]? = some (.cells #[.int .i64 X, .int .i64 Y] 29 (0, 0)) := heap_alloc_new _ _
    have K5 := K4.then k5
    clear HQ1 k4 k24 k5 K4 K3 gA2 gB2 gA4 gB4 gX4
    go_wp2_with fail
    obtain ⟨w5, hw5⟩ : ∃ w5, w4.alloc (.cells #[.int .i64 X, .int .i64 Y] 29) = w5 := ⟨_, rfl⟩
    obtain ⟨R, hR⟩ : ∃ R, w2.heap.size = R := ⟨_, rfl⟩
    obtain ⟨S, hS⟩ : ∃ S, w4.heap.size = S := ⟨_, rfl⟩
    simp only [hw5, hR, hS] at gA5 gB5 gX5 gY5 K5 ⊢
    clear hw5 hR hS c0 c1 c2 c3 lA lB
    obtain ⟨pG, hpG⟩ : ∃ pG : World → Prop, ∀ w', pG w' ↔ Chg no w5 w' := ⟨_, fun _ => Iff.rfl⟩
    have xA0 : ∀ x' : far.InC pG, x'.w.cell? ⟨N, 0, none⟩ = some (.int .i64 a0) := fun x => (row_cell (xs := [_, _]) (((hpG _).1 x.h).heap gA5 id) 0 _ rfl).1
    have xA1 : ∀ x' : far.InC pG, x'.w.cell? ⟨N, 1, none⟩ = some (.int .i64 b0) := fun x => (row_cell (xs := [_, _]) (((hpG _).1 x.h).heap gA5 id) 1 _ rfl).1
    have xB0 : ∀ x' : far.InC pG, x'.w.cell? ⟨M, 0, none⟩ = some (.int .i64 a0) := fun x => (row_cell (xs := [_, _]) (((hpG _).1 x.h).heap gB5 id) 0 _ rfl).1
    have xB1 : ∀ x' : far.InC pG, x'.w.cell? ⟨M, 1, none⟩ = some (.int .i64 b1) := fun x => (row_cell (xs := [_, _]) (((hpG _).1 x.h).heap gB5 id) 1 _ rfl).1
    have xX0 : ∀ x' : far.InC pG, x'.w.cell? ⟨R, 0, none⟩ = some (.int .i64 X) := fun x => (row_cell (xs := [_, _]) (((hpG _).1 x.h).heap gX5 id) 0 _ rfl).1
    have xX1 : ∀ x' : far.InC pG, x'.w.cell? ⟨R, 1, none⟩ = some (.int .i64 Y) := fun x => (row_cell (xs := [_, _]) (((hpG _).1 x.h).heap gX5 id) 1 _ rfl).1
    have xY0 : ∀ x' : far.InC pG, x'.w.cell? ⟨S, 0, none⟩ = some (.int .i64 X) := fun x => (row_cell (xs := [_, _]) (((hpG _).1 x.h).heap gY5 id) 0 _ rfl).1
    have xY1 : ∀ x' : far.InC pG, x'.w.cell? ⟨S, 1, none⟩ = some (.int .i64 Y) := fun x => (row_cell (xs := [_, _]) (((hpG _).1 x.h).heap gY5 id) 1 _ rfl).1
    have iG : Nonempty (far.InC pG) := ⟨⟨w5, (hpG _).2 (Chg.refl _ _)⟩⟩
    have HpG : Hid (∀ w', pG w' ↔ Chg no w5 w') := hpG
    have Z0 : Chg no w5 w5.drew := (Chg.refl no w5).drew
    clear hpG gA5 gB5 gX5 gY5
    refine far.region_farM (fun κ w' => pG w') [0, 3, 5, 6, 11, 13, 14, 15, 19, 39] (by kernel_rfl) (by kernel_rfl) ((HpG.out _).2 Z0) ?_
    intro L e1' e2' e3'
    refine far.farO_enter e1' e2' 0 rfl rfl 8 #[] (by kernel_rfl) (by kernel_rfl) ?_
    refine (first_any _).mono ?_
    rintro e wa ⟨rfl, ka⟩
    have Ka := Z0.then ka
    refine ⟨_, rfl, (HpG.out _).2 Ka, ?_⟩
    simp only [Act.put, List.setIfInBounds_toArray, List.set_cons_succ, List.set_cons_zero, Nat.reduceAdd]
    refine far.farO_stretch pG 2 0 1 e1' e2' e3' (by kernel_rfl) (by kernel_rfl) (fun κ w' hk1 hk2 hC => hC) ?_
    simp only [List.take_succ_cons, List.take_zero, List.drop_succ_cons, List.drop_zero, Nat.reduceAdd]
    repeat (go_big_quiet_step (fail))
    refine wpQuiet_nil ?_
    refine far.farO_enter e1' e2' 1 rfl rfl 11 #[nv a0 b0] (by kernel_rfl) (by kernel_rfl) ?_
    refine (HMM.out _).mono ?_
    rintro e wb ⟨rfl, kb⟩
    have Kb := Ka.then kb
    refine ⟨_, rfl, (HpG.out _).2 Kb, ?_⟩
    simp only [Act.put, List.setIfInBounds_toArray, List.set_cons_succ, List.set_cons_zero, Nat.reduceAdd]
    refine far.farO_stretch pG 1 0 2 e1' e2' e3' (by kernel_rfl) (by kernel_rfl) (fun κ w' hk1 hk2 hC => hC) ?_
    simp only [List.take_succ_cons, List.take_zero, List.drop_succ_cons, List.drop_zero, Nat.reduceAdd]
    repeat (go_big_quiet_step (fail))
    refine wpQuiet_nil ?_
    refine far.farO_enter e1' e2' 2 rfl rfl 12 #[nv a0 b0] (by kernel_rfl) (by kernel_rfl) ?_
    refine (plain_any _ a0 b0).mono ?_
    rintro e wc ⟨rfl, kc⟩
    have Kc := Kb.then kc
    refine ⟨_, rfl, (HpG.out _).2 Kc, ?_⟩
    simp only [Act.put, List.setIfInBounds_toArray, List.set_cons_succ, List.set_cons_zero, Nat.reduceAdd]
    refine far.farO_enter e1' e2' 3 rfl rfl 13 #[nv a0 b0] (by kernel_rfl) (by kernel_rfl) ?_
    refine (HRR.out _).mono ?_
    rintro e wd ⟨rfl, kd⟩
    have Kd := Kc.then kd
    refine ⟨_, rfl, (HpG.out _).2 Kd, ?_⟩
    simp only [Act.put, List.setIfInBounds_toArray, List.set_cons_succ, List.set_cons_zero, Nat.reduceAdd]
    refine far.farO_stretch pG 4 0 4 e1' e2' e3' (by kernel_rfl) (by kernel_rfl) (fun κ w' hk1 hk2 hC => hC) ?_
    simp only [List.take_succ_cons, List.take_zero, List.drop_succ_cons, List.drop_zero, Nat.reduceAdd]
    repeat (go_big_quiet_step (fail))
    refine wpQuiet_nil ?_
    refine far.farO_enter e1' e2' 4 rfl rfl 15 #[nv a0 b0] (by kernel_rfl) (by kernel_rfl) ?_
    refine (bytes_any _ a0 b0).mono ?_
    rintro e we ⟨b, rfl, _, hb2, ke⟩
    have Ke := Kd.then ke
    refine ⟨_, rfl, (HpG.out _).2 Ke, ?_⟩
    simp only [Act.put, List.setIfInBounds_toArray, List.set_cons_succ, List.set_cons_zero, Nat.reduceAdd]
    refine far.farO_stretch pG 1 0 5 e1' e2' e3' (by kernel_rfl) (by kernel_rfl) (fun κ w' hk1 hk2 hC => hC) ?_
    simp only [List.take_succ_cons, List.take_zero, List.drop_succ_cons, List.drop_zero, Nat.reduceAdd]
    repeat (go_big_quiet_step (fail))
    refine wpQuiet_nil ?_
    refine far.farO_enter e1' e2' 5 rfl rfl 12 #[nv a0 b0] (by kernel_rfl) (by kernel_rfl) ?_
    refine (plain_any _ a0 b0).mono ?_
    rintro e wf ⟨rfl, kf⟩
    have Kf := Ke.then kf
    have hb3 := kf.heap hb2 id
    refine ⟨_, rfl, (HpG.out _).2 Kf, ?_⟩
    simp only [Act.put, List.setIfInBounds_toArray, List.set_cons_succ, List.set_cons_zero, Nat.reduceAdd]
    refine far.farO_enter e1' e2' 6 rfl rfl 16 #[nv a0 b0] (by kernel_rfl) (by kernel_rfl) ?_
    refine (rbytes_any _ a0 b0).mono ?_
    rintro e wg ⟨y, cy, J, rfl, hL, kg⟩
    have Kg := Kf.then kg
    have q1 := block_lies (kg.heap hb3 id)
    rw [nbs_length] at q1
    have BY := bytes_same q1 hL
    refine ⟨_, rfl, (HpG.out _).2 Kg, ?_⟩
    simp only [Act.put, List.setIfInBounds_toArray, List.set_cons_succ, List.set_cons_zero, Nat.reduceAdd]
    refine far.farO_enter e1' e2' 7 rfl rfl 14 #[.slice (some ⟨b, 0, none⟩) 12 12, .slice y 12 cy] (by kernel_rfl) (by kernel_rfl) ?_
    refine (BY).mono ?_
    rintro e wh ⟨rfl, rfl⟩
    refine ⟨_, rfl, (HpG.out _).2 Kg, ?_⟩
    simp only [Act.put, List.setIfInBounds_toArray, List.set_cons_succ, List.set_cons_zero, Nat.reduceAdd]
    refine far.farO_stretch pG 3 0 8 e1' e2' e3' (by kernel_rfl) (by kernel_rfl) (fun κ w' hk1 hk2 hC => hC) ?_
    simp only [List.take_succ_cons, List.take_zero, List.drop_succ_cons, List.drop_zero, Nat.reduceAdd]
    repeat (go_big_quiet_step (fail))
    refine wpQuiet_nil ?_
    refine far.farO_enter e1' e2' 8 rfl rfl 12 #[nv X Y] (by kernel_rfl) (by kernel_rfl) ?_
    refine (plain_any _ X Y).mono ?_
    rintro e wi ⟨rfl, ki⟩
    have Ki := Kg.then ki
    refine ⟨_, rfl, (HpG.out _).2 Ki, ?_⟩
    simp only [Act.put, List.setIfInBounds_toArray, List.set_cons_succ, List.set_cons_zero, Nat.reduceAdd]
    refine far.farO_stretch pG 19 0 9 e1' e2' e3' (by kernel_rfl) (by kernel_rfl) (fun κ w' hk1 hk2 hC => hC) ?_
    simp only [List.take_succ_cons, List.take_zero, List.drop_succ_cons, List.drop_zero, Nat.reduceAdd]
    repeat (go_big_quiet_step (fail))
    refine wpQuiet_nil ?_
    refine far.farO_enter e1' e2' 9 rfl rfl 17 #[nv a0 b0, nv a0 b1] (by kernel_rfl) (by kernel_rfl) ?_
    refine (HLL.out _).mono ?_
    rintro e wj ⟨rfl, kj⟩
    have Kj := Ki.then kj
    refine ⟨_, rfl, (HpG.out _).2 Kj, ?_⟩
    simp only [Act.put, List.setIfInBounds_toArray, List.set_cons_succ, List.set_cons_zero, Nat.reduceAdd]
    refine far.farO_stretch pG 4 0 10 e1' e2' e3' (by kernel_rfl) (by kernel_rfl) (fun κ w' hk1 hk2 hC => hC) ?_
    simp only [List.take_succ_cons, List.take_zero, List.drop_succ_cons, List.drop_zero, Nat.reduceAdd]
    repeat (go_big_quiet_step (fail))
    refine wpQuiet_nil ?_
    refine far.farO_nil ?_
    clear xA0 xA1 xB0 xB1 xX0 xX1 xY0 xY1 iG HpG BY q1 hL hb2 hb3
    go_wp2
    go_ret
    exact ⟨by first | rfl | exact ret_bool (by simp; omega), (K5.then Kj).below⟩
  · go_enter Try.func3, Try.ntmps3
    go_wp2_with fail
    refine (first_any _).mono ?_
    rintro e w1 ⟨rfl, k1⟩
    have K1 : Chg no w w1 := (((Chg.refl no w).alloc _).alloc _).then k1
    have gA : w1.heap[w.heap.size]? = some (.cells #[.int .i64 a0, .int .i64 b0] 23 (0, 0)) := k1.heap (by rw [Below.heap_alloc _ _ _ (by simp)]; exact heap_alloc_new _ _) id
    have gB : w1.heap[w.heap.size + 1]? = some (.cells #[.int .i64 a0, .int .i64 b1] 23 (0, 0)) := k1.heap (by have := heap_alloc_new (w.alloc (.cells #[.int .i64 a0, .int .i64 b0] 23)) (.cells #[.int .i64 a0, .int .i64 b1] 23); rw [show (w.alloc (.cells #[.int .i64 a0, .int .i64 b0] 23)).heap.size = w.heap.size + 1 by simp] at this; exact this) id
    obtain ⟨N, hN⟩ : ∃ N, w.heap.size = N := ⟨_, rfl⟩
    obtain ⟨M, hM⟩ : ∃ M, N + 1 = M := ⟨_, rfl⟩
    simp only [hN, hM] at gA gB ⊢
    have HP1 := HP.out _ K1
    clear k1 HP hM
    go_wp2_with fail
    refine HP1.mono ?_
    rintro e w2 ⟨rfl, k2⟩
    have K3 : Chg no w (w2.alloc (.cells #[.int .i64 X, .int .i64 Y] 23)) := (K1.then k2).alloc _
    have gA2 := k2.heap gA id
    have gB2 := k2.heap gB id
    have HQ1 := HQ.out _ K3
    clear HP1 K1 HQ k2 gA gB
    go_wp2_with fail
    refine HQ1.mono ?_
    rintro e w4 ⟨rfl, k4⟩
    have K4 : Chg no w w4 := K3.then k4
    have k24 : Chg no w2 w4 := ((Chg.refl no w2).alloc _).then k4
    have gA4 := k24.heap gA2 id
    have gB4 := k24.heap gB2 id
    have gX4 : w4.heap[w2.heap.size]? = some (.cells #[.int .i64 X, .int .i64 Y] 23 (0, 0)) := k4.heap (heap_alloc_new _ _) id
    obtain ⟨c0, _⟩ := row_cell (xs := [_, _]) gA4 0 _ rfl
    obtain ⟨c1, _⟩ := row_cell (xs := [_, _]) gA4 1 _ rfl
    obtain ⟨c2, _⟩ := row_cell (xs := [_, _]) gB4 0 _ rfl
    obtain ⟨c3, _⟩ := row_cell (xs := [_, _]) gB4 1 _ rfl
    have lA := lt_of_block gA4
    have lB := lt_of_block gB4
    have k5 : Chg no w4 (w4.alloc (.cells #[.int .i64 X, .int .i64 Y] 29)) := (Chg.refl no w4).alloc _
    have gA5 := k5.heap gA4 id
    have gB5 := k5.heap gB4 id
    have gX5 := k5.heap gX4 id
    have gY5 : (w4.alloc (.cells #[.int .i64 X, .int .i64 Y] 29)).heap[w4.heap.size]? = some (.cells #[.int .i64 X, .int .i64 Y] 29 (0, 0)) := heap_alloc_new _ _
    have K5 := K4.then k5
    clear HQ1 k4 k24 k5 K4 K3 gA2 gB2 gA4 gB4 gX4
    go_wp2_with fail
    obtain ⟨w5, hw5⟩ : ∃ w5, w4.alloc (.cells #[.int .i64 X, .int .i64 Y] 29) = w5 := ⟨_, rfl⟩
    obtain ⟨R, hR⟩ : ∃ R, w2.heap.size = R := ⟨_, rfl⟩
    obtain ⟨S, hS⟩ : ∃ S, w4.heap.size = S := ⟨_, rfl⟩
    simp only [hw5, hR, hS] at gA5 gB5 gX5 gY5 K5 ⊢
    clear hw5 hR hS c0 c1 c2 c3 lA lB
    obtain ⟨pG, hpG⟩ : ∃ pG : World → Prop, ∀ w', pG w' ↔ Chg no w5 w' := ⟨_, fun _ => Iff.rfl⟩
    have xA0 : ∀ x' : far.InC pG, x'.w.cell? ⟨N, 0, none⟩ = some (.int .i64 a0) := fun x => (row_cell (xs := [_, _]) (((hpG _).1 x.h).heap gA5 id) 0 _ rfl).1
    have xA1 : ∀ x' : far.InC pG, x'.w.cell? ⟨N, 1, none⟩ = some (.int .i64 b0) := fun x => (row_cell (xs := [_, _]) (((hpG _).1 x.h).heap gA5 id) 1 _ rfl).1
    have xB0 : ∀ x' : far.InC pG, x'.w.cell? ⟨M, 0, none⟩ = some (.int .i64 a0) := fun x => (row_cell (xs := [_, _]) (((hpG _).1 x.h).heap gB5 id) 0 _ rfl).1
    have xB1 : ∀ x' : far.InC pG, x'.w.cell? ⟨M, 1, none⟩ = some (.int .i64 b1) := fun x => (row_cell (xs := [_, _]) (((hpG _).1 x.h).heap gB5 id) 1 _ rfl).1
    have xX0 : ∀ x' : far.InC pG, x'.w.cell? ⟨R, 0, none⟩ = some (.int .i64 X) := fun x => (row_cell (xs := [_, _]) (((hpG _).1 x.h).heap gX5 id) 0 _ rfl).1
    have xX1 : ∀ x' : far.InC pG, x'.w.cell? ⟨R, 1, none⟩ = some (.int .i64 Y) := fun x => (row_cell (xs := [_, _]) (((hpG _).1 x.h).heap gX5 id) 1 _ rfl).1
    have xY0 : ∀ x' : far.InC pG, x'.w.cell? ⟨S, 0, none⟩ = some (.int .i64 X) := fun x => (row_cell (xs := [_, _]) (((hpG _).1 x.h).heap gY5 id) 0 _ rfl).1
    have xY1 : ∀ x' : far.InC pG, x'.w.cell? ⟨S, 1, none⟩ = some (.int .i64 Y) := fun x => (row_cell (xs := [_, _]) (((hpG _).1 x.h).heap gY5 id) 1 _ rfl).1
    have iG : Nonempty (far.InC pG) := ⟨⟨w5, (hpG _).2 (Chg.refl _ _)⟩⟩
    have HpG : Hid (∀ w', pG w' ↔ Chg no w5 w') := hpG
    have Z0 : Chg no w5 w5.drew := (Chg.refl no w5).drew
    clear hpG gA5 gB5 gX5 gY5
    refine far.region_farM (fun κ w' => pG w') [0, 3, 5, 6, 11, 13, 14, 15, 19, 39] (by kernel_rfl) (by kernel_rfl) ((HpG.out _).2 Z0) ?_
    intro L e1' e2' e3'
    refine far.farO_enter e1' e2' 0 rfl rfl 8 #[] (by kernel_rfl) (by kernel_rfl) ?_
    refine (first_any _).mono ?_
    rintro e wa ⟨rfl, ka⟩
    have Ka := Z0.then ka
    refine ⟨_, rfl, (HpG.out _).2 Ka, ?_⟩
    simp only [Act.put, List.setIfInBounds_toArray, List.set_cons_succ, List.set_cons_zero, Nat.reduceAdd]
    refine far.farO_stretch pG 2 0 1 e1' e2' e3' (by kernel_rfl) (by kernel_rfl) (fun κ w' hk1 hk2 hC => hC) ?_
    simp only [List.take_succ_cons, List.take_zero, List.drop_succ_cons, List.drop_zero, Nat.reduceAdd]
    repeat (go_big_quiet_step (fail))
    refine wpQuiet_nil ?_
    refine far.farO_enter e1' e2' 1 rfl rfl 11 #[nv a0 b0] (by kernel_rfl) (by kernel_rfl) ?_
    refine (HMM.out _).mono ?_
    rintro e wb ⟨rfl, kb⟩
    have Kb := Ka.then kb
    refine ⟨_, rfl, (HpG.out _).2 Kb, ?_⟩
    simp only [Act.put, List.setIfInBounds_toArray, List.set_cons_succ, List.set_cons_zero, Nat.reduceAdd]
    refine far.farO_stretch pG 1 0 2 e1' e2' e3' (by kernel_rfl) (by kernel_rfl) (fun κ w' hk1 hk2 hC => hC) ?_
    simp only [List.take_succ_cons, List.take_zero, List.drop_succ_cons, List.drop_zero, Nat.reduceAdd]
    repeat (go_big_quiet_step (fail))
    refine wpQuiet_nil ?_
    refine far.farO_enter e1' e2' 2 rfl rfl 12 #[nv a0 b0] (by kernel_rfl) (by kernel_rfl) ?_
    refine (plain_any _ a0 b0).mono ?_
    rintro e wc ⟨rfl, kc⟩
    have Kc := Kb.then kc
    refine ⟨_, rfl, (HpG.out _).2 Kc, ?_⟩
    simp only [Act.put, List.setIfInBounds_toArray, List.set_cons_succ, List.set_cons_zero, Nat.reduceAdd]
    refine far.farO_enter e1' e2' 3 rfl rfl 13 #[nv a0 b0] (by kernel_rfl) (by kernel_rfl) ?_
    refine (HRR.out _).mono ?_
    rintro e wd ⟨rfl, kd⟩
    have Kd := Kc.then kd
    refine ⟨_, rfl, (HpG.out _).2 Kd, ?_⟩
    simp only [Act.put, List.setIfInBounds_toArray, List.set_cons_succ, List.set_cons_zero, Nat.reduceAdd]
    refine far.farO_stretch pG 4 0 4 e1' e2' e3' (by kernel_rfl) (by kernel_rfl) (fun κ w' hk1 hk2 hC => hC) ?_
    simp only [List.take_succ_cons, List.take_zero, List.drop_succ_cons, List.drop_zero, Nat.reduceAdd]
    repeat (go_big_quiet_step (fail))
    refine wpQuiet_nil ?_
    refine far.farO_enter e1' e2' 4 rfl rfl 15 #[nv a0 b0] (by kernel_rfl) (by kernel_rfl) ?_
    refine (bytes_any _ a0 b0).mono ?_
    rintro e we ⟨b, rfl, _, hb2, ke⟩
    have Ke := Kd.then ke
    refine ⟨_, rfl, (HpG.out _).2 Ke, ?_⟩
    simp only [Act.put, List.setIfInBounds_toArray, List.set_cons_succ, List.set_cons_zero, Nat.reduceAdd]
    refine far.farO_stretch pG 1 0 5 e1' e2' e3' (by kernel_rfl) (by kernel_rfl) (fun κ w' hk1 hk2 hC => hC) ?_
    simp only [List.take_succ_cons, List.take_zero, List.drop_succ_cons, List.drop_zero, Nat.reduceAdd]
    repeat (go_big_quiet_step (fail))
    refine wpQuiet_nil ?_
    refine far.farO_enter e1' e2' 5 rfl rfl 12 #[nv a0 b0] (by kernel_rfl) (by kernel_rfl) ?_
    refine (plain_any _ a0 b0).mono ?_
    rintro e wf ⟨rfl, kf⟩
    have Kf := Ke.then kf
    have hb3 := kf.heap hb2 id
    refine ⟨_, rfl, (HpG.out _).2 Kf, ?_⟩
    simp only [Act.put, List.setIfInBounds_toArray, List.set_cons_succ, List.set_cons_zero, Nat.reduceAdd]
    refine far.farO_enter e1' e2' 6 rfl rfl 16 #[nv a0 b0] (by kernel_rfl) (by kernel_rfl) ?_
    refine (rbytes_any _ a0 b0).mono ?_
    rintro e wg ⟨y, cy, J, rfl, hL, kg⟩
    have Kg := Kf.then kg
    have q1 := block_lies (kg.heap hb3 id)
    rw [nbs_length] at q1
    have BY := bytes_same q1 hL
    refine ⟨_, rfl, (HpG.out _).2 Kg, ?_⟩
    simp only [Act.put, List.setIfInBounds_toArray, List.set_cons_succ, List.set_cons_zero, Nat.reduceAdd]
    refine far.farO_enter e1' e2' 7 rfl rfl 14 #[.slice (some ⟨b, 0, none⟩) 12 12, .slice y 12 cy] (by kernel_rfl) (by kernel_rfl) ?_
    refine (BY).mono ?_
    rintro e wh ⟨rfl, rfl⟩
    refine ⟨_, rfl, (HpG.out _).2 Kg, ?_⟩
    simp only [Act.put, List.setIfInBounds_toArray, List.set_cons_succ, List.set_cons_zero, Nat.reduceAdd]
    refine far.farO_stretch pG 3 0 8 e1' e2' e3' (by kernel_rfl) (by kernel_rfl) (fun κ w' hk1 hk2 hC => hC) ?_
    simp only [List.take_succ_cons, List.take_zero, List.drop_succ_cons, List.drop_zero, Nat.reduceAdd]
    repeat (go_big_quiet_step (fail))
    refine wpQuiet_nil ?_
    refine far.farO_enter e1' e2' 8 rfl rfl 12 #[nv X Y] (by kernel_rfl) (by kernel_rfl) ?_
    refine (plain_any _ X Y).mono ?_
    rintro e wi ⟨rfl, ki⟩
    have Ki := Kg.then ki
    refine ⟨_, rfl, (HpG.out _).2 Ki, ?_⟩
    simp only [Act.put, List.setIfInBounds_toArray, List.set_cons_succ, List.set_cons_zero, Nat.reduceAdd]
    refine far.farO_stretch pG 19 0 9 e1' e2' e3' (by kernel_rfl) (by kernel_rfl) (fun κ w' hk1 hk2 hC => hC) ?_
    simp only [List.take_succ_cons, List.take_zero, List.drop_succ_cons, List.drop_zero, Nat.reduceAdd]
    repeat (go_big_quiet_step (fail))
    refine wpQuiet_nil ?_
    refine far.farO_enter e1' e2' 9 rfl rfl 17 #[nv a0 b0, nv a0 b1] (by kernel_rfl) (by kernel_rfl) ?_
    refine (HLL.out _).mono ?_
    rintro e wj ⟨rfl, kj⟩
    have Kj := Ki.then kj
    refine ⟨_, rfl, (HpG.out _).2 Kj, ?_⟩
    simp only [Act.put, List.setIfInBounds_toArray, List.set_cons_succ, List.set_cons_zero, Nat.reduceAdd]
    refine far.farO_stretch pG 4 0 10 e1' e2' e3' (by kernel_rfl) (by kernel_rfl) (fun κ w' hk1 hk2 hC => hC) ?_
    simp only [List.take_succ_cons, List.take_zero, List.drop_succ_cons, List.drop_zero, Nat.reduceAdd]
    repeat (go_big_quiet_step (fail))
    refine wpQuiet_nil ?_
    refine far.farO_nil ?_
    clear xA0 xA1 xB0 xB1 xX0 xX1 xY0 xY1 iG HpG BY q1 hL hb2 hb3
    go_wp2
    go_ret
    exact ⟨by first | rfl | exact ret_bool (by simp; omega), (K5.then Kj).below⟩
  · go_enter Try.func3, Try.ntmps3
    go_wp2_with fail
    refine (first_any _).mono ?_
    rintro e w1 ⟨rfl, k1⟩
    have K1 : Chg no w w1 := (((Chg.refl no w).alloc _).alloc _).then k1
    have gA : w1.heap[w.heap.size]? = some (.cells #[.int .i64 a0, .int .i64 b0] 23 (0, 0)) := k1.heap (by rw [Below.heap_alloc _ _ _ (by simp)]; exact heap_alloc_new _ _) id
    have gB : w1.heap[w.heap.size + 1]? = some (.cells #[.int .i64 a1, .int .i64 b1] 23 (0, 0)) := k1.heap (by have := heap_alloc_new (w.alloc (.cells #[.int .i64 a0, .int .i64 b0] 23)) (.cells #[.int .i64 a1, .int .i64 b1] 23); rw [show (w.alloc (.cells #[.int .i64 a0, .int .i64 b0] 23)).heap.size = w.heap.size + 1 by simp] at this; exact this) id
    obtain ⟨N, hN⟩ : ∃ N, w.heap.size = N := ⟨_, rfl⟩
    obtain ⟨M, hM⟩ : ∃ M, N + 1 = M := ⟨_, rfl⟩
    simp only [hN, hM] at gA gB ⊢
    have HP1 := HP.out _ K1
    clear k1 HP hM
    go_wp2_with fail
    refine HP1.mono ?_
    rintro e w2 ⟨rfl, k2⟩
    have K3 : Chg no w (w2.alloc (.cells #[.int .i64 X, .int .i64 Y] 23)) := (K1.then k2).alloc _
    have gA2 := k2.heap gA id
    have gB2 := k2.heap gB id
    have HQ1 := HQ.out _ K3
    clear HP1 K1 HQ k2 gA gB
    go_wp2_with fail
    refine HQ1.mono ?_
    rintro e w4 ⟨rfl, k4⟩
    have K4 : Chg no w w4 := K3.then k4
    have k24 : Chg no w2 w4 := ((Chg.refl no w2).alloc _).then k4
    have gA4 := k24.heap gA2 id
    have gB4 := k24.heap gB2 id
    have gX4 : w4.heap[w2.heap.size]? = some (.cells #[.int .i64 X, .int .i64 Y] 23 (0, 0)) := k4.heap (heap_alloc_new _ _) id
    obtain ⟨c0, _⟩ := row_cell (xs := [_, _]) gA4 0 _ rfl
    obtain ⟨c1, _⟩ := row_cell (xs := [_, _]) gA4 1 _ rfl
    obtain ⟨c2, _⟩ := row_cell (xs := [_, _]) gB4 0 _ rfl
    obtain ⟨c3, _⟩ := row_cell (xs := [_, _]) gB4 1 _ rfl
    have lA := lt_of_block gA4
    have lB := lt_of_block gB4
    have k5 : Chg no w4 (w4.alloc (.cells #[.int .i64 X, .int .i64 Y] 29)) := (Chg.refl no w4).alloc _
    have gA5 := k5.heap gA4 id
    have gB5 := k5.heap gB4 id
    have gX5 := k5.heap gX4 id
    have gY5 : (w4.alloc (.cells #[.int .i64 X, .int .i64 Y] 29)).heap[w4.heap.size]? = some (.cells #[.int .i64 X, .int .i64 Y] 29 (0, 0)) := heap_alloc_new _ _
    have K5 := K4.then k5
    clear HQ1 k4 k24 k5 K4 K3 gA2 gB2 gA4 gB4 gX4
    go_wp2_with fail
    obtain ⟨w5, hw5⟩ : ∃ w5, w4.alloc (.cells #[.int .i64 X, .int .i64 Y] 29) = w5 := ⟨_, rfl⟩
    obtain ⟨R, hR⟩ : ∃ R, w2.heap.size = R := ⟨_, rfl⟩
    obtain ⟨S, hS⟩ : ∃ S, w4.heap.size = S := ⟨_, rfl⟩
    simp only [hw5, hR, hS] at gA5 gB5 gX5 gY5 K5 ⊢
    clear hw5 hR hS c0 c1 c2 c3 lA lB
    obtain ⟨pG, hpG⟩ : ∃ pG : World → Prop, ∀ w', pG w' ↔ Chg no w5 w' := ⟨_, fun _ => Iff.rfl⟩
    have xA0 : ∀ x' : far.InC pG, x'.w.cell? ⟨N, 0, none⟩ = some (.int .i64 a0) := fun x => (row_cell (xs := [_, _]) (((hpG _).1 x.h).heap gA5 id) 0 _ rfl).1
    have xA1 : ∀ x' : far.InC pG, x'.w.cell? ⟨N, 1, none⟩ = some (.int .i64 b0) := fun x => (row_cell (xs := [_, _]) (((hpG _).1 x.h).heap gA5 id) 1 _ rfl).1
    have xB0 : ∀ x' : far.InC pG, x'.w.cell? ⟨M, 0, none⟩ = some (.int .i64 a1) := fun x => (row_cell (xs := [_, _]) (((hpG _).1 x.h).heap gB5 id) 0 _ rfl).1
    have xB1 : ∀ x' : far.InC pG, x'.w.cell? ⟨M, 1, none⟩ = some (.int .i64 b1) := fun x => (row_cell (xs := [_, _]) (((hpG _).1 x.h).heap gB5 id) 1 _ rfl).1
    have xX0 : ∀ x' : far.InC pG, x'.w.cell? ⟨R, 0, none⟩ = some (.int .i64 X) := fun x => (row_cell (xs := [_, _]) (((hpG _).1 x.h).heap gX5 id) 0 _ rfl).1
    have xX1 : ∀ x' : far.InC pG, x'.w.cell? ⟨R, 1, none⟩ = some (.int .i64 Y) := fun x => (row_cell (xs := [_, _]) (((hpG _).1 x.h).heap gX5 id) 1 _ rfl).1
    have xY0 : ∀ x' : far.InC pG, x'.w.cell? ⟨S, 0, none⟩ = some (.int .i64 X) := fun x => (row_cell (xs := [_, _]) (((hpG _).1 x.h).heap gY5 id) 0 _ rfl).1
    have xY1 : ∀ x' : far.InC pG, x'.w.cell? ⟨S, 1, none⟩ = some (.int .i64 Y) := fun x => (row_cell (xs := [_, _]) (((hpG _).1 x.h).heap gY5 id) 1 _ rfl).1
    have iG : Nonempty (far.InC pG) := ⟨⟨w5, (hpG _).2 (Chg.refl _ _)⟩⟩
    have HpG : Hid (∀ w', pG w' ↔ Chg no w5 w') := hpG
    have Z0 : Chg no w5 w5.drew := (Chg.refl no w5).drew
    clear hpG gA5 gB5 gX5 gY5
    refine far.region_farM (fun κ w' => pG w') [0, 3, 5, 6, 11, 13, 14, 15, 19, 39] (by kernel_rfl) (by kernel_rfl) ((HpG.out _).2 Z0) ?_
    intro L e1' e2' e3'
    refine far.farO_enter e1' e2' 0 rfl rfl 8 #[] (by kernel_rfl) (by kernel_rfl) ?_
    refine (first_any _).mono ?_
    rintro e wa ⟨rfl, ka⟩
    have Ka := Z0.then ka
    refine ⟨_, rfl, (HpG.out _).2 Ka, ?_⟩
    simp only [Act.put, List.setIfInBounds_toArray, List.set_cons_succ, List.set_cons_zero, Nat.reduceAdd]
    refine far.farO_stretch pG 2 0 1 e1' e2' e3' (by kernel_rfl) (by kernel_rfl) (fun κ w' hk1 hk2 hC => hC) ?_
    simp only [List.take_succ_cons, List.take_zero, List.drop_succ_cons, List.drop_zero, Nat.reduceAdd]
    repeat (go_big_quiet_step (fail))
    refine wpQuiet_nil ?_
    refine far.farO_enter e1' e2' 1 rfl rfl 11 #[nv a0 b0] (by kernel_rfl) (by kernel_rfl) ?_
    refine (HMM.out _).mono ?_
    rintro e wb ⟨rfl, kb⟩
    have Kb := Ka.then kb
    refine ⟨_, rfl, (HpG.out _).2 Kb, ?_⟩
    simp only [Act.put, List.setIfInBounds_toArray, List.set_cons_succ, List.set_cons_zero, Nat.reduceAdd]
    refine far.farO_stretch pG 1 0 2 e1' e2' e3' (by kernel_rfl) (by kernel_rfl) (fun κ w' hk1 hk2 hC => hC) ?_
    simp only [List.take_succ_cons, List.take_zero, List.drop_succ_cons, List.drop_zero, Nat.reduceAdd]
    repeat (go_big_quiet_step (fail))
    refine wpQuiet_nil ?_
    refine far.farO_enter e1' e2' 2 rfl rfl 12 #[nv a0 b0] (by kernel_rfl) (by kernel_rfl) ?_
    refine (plain_any _ a0 b0).mono ?_
    rintro e wc ⟨rfl, kc⟩
    have Kc := Kb.then kc
    refine ⟨_, rfl, (HpG.out _).2 Kc, ?_⟩
    simp only [Act.put, List.setIfInBounds_toArray, List.set_cons_succ, List.set_cons_zero, Nat.reduceAdd]
    refine far.farO_enter e1' e2' 3 rfl rfl 13 #[nv a0 b0] (by kernel_rfl) (by kernel_rfl) ?_
    refine (HRR.out _).mono ?_
    rintro e wd ⟨rfl, kd⟩
    have Kd := Kc.then kd
    refine ⟨_, rfl, (HpG.out _).2 Kd, ?_⟩
    simp only [Act.put, List.setIfInBounds_toArray, List.set_cons_succ, List.set_cons_zero, Nat.reduceAdd]
    refine far.farO_stretch pG 4 0 4 e1' e2' e3' (by kernel_rfl) (by kernel_rfl) (fun κ w' hk1 hk2 hC => hC) ?_
    simp only [List.take_succ_cons, List.take_zero, List.drop_succ_cons, List.drop_zero, Nat.reduceAdd]
    repeat (go_big_quiet_step (fail))
    refine wpQuiet_nil ?_
    refine far.farO_enter e1' e2' 4 rfl rfl 15 #[nv a0 b0] (by kernel_rfl) (by kernel_rfl) ?_
    refine (bytes_any _ a0 b0).mono ?_
    rintro e we ⟨b, rfl, _, hb2, ke⟩
    have Ke := Kd.then ke
    refine ⟨_, rfl, (HpG.out _).2 Ke, ?_⟩
    simp only [Act.put, List.setIfInBounds_toArray, List.set_cons_succ, List.set_cons_zero, Nat.reduceAdd]
    refine far.farO_stretch pG 1 0 5 e1' e2' e3' (by kernel_rfl) (by kernel_rfl) (fun κ w' hk1 hk2 hC => hC) ?_
    simp only [List.take_succ_cons, List.take_zero, List.drop_succ_cons, List.drop_zero, Nat.reduceAdd]
    repeat (go_big_quiet_step (fail))
    refine wpQuiet_nil ?_
    refine far.farO_enter e1' e2' 5 rfl rfl 12 #[nv a0 b0] (by kernel_rfl) (by kernel_rfl) ?_
    refine (plain_any _ a0 b0).mono ?_
    rintro e wf ⟨rfl, kf⟩
    have Kf := Ke.then kf
    have hb3 := kf.heap hb2 id
    refine ⟨_, rfl, (HpG.out _).2 Kf, ?_⟩
    simp only [Act.put, List.setIfInBounds_toArray, List.set_cons_succ, List.set_cons_zero, Nat.reduceAdd]
    refine far.farO_enter e1' e2' 6 rfl rfl 16 #[nv a0 b0] (by kernel_rfl) (by kernel_rfl) ?_
    refine (rbytes_any _ a0 b0).mono ?_
    rintro e wg ⟨y, cy, J, rfl, hL, kg⟩
    have Kg := Kf.then kg
    have q1 := block_lies (kg.heap hb3 id)
    rw [nbs_length] at q1
    have BY := bytes_same q1 hL
    refine ⟨_, rfl, (HpG.out _).2 Kg, ?_⟩
    simp only [Act.put, List.setIfInBounds_toArray, List.set_cons_succ, List.set_cons_zero, Nat.reduceAdd]
    refine far.farO_enter e1' e2' 7 rfl rfl 14 #[.slice (some ⟨b, 0, none⟩) 12 12, .slice y 12 cy] (by kernel_rfl) (by kernel_rfl) ?_
    refine (BY).mono ?_
    rintro e wh ⟨rfl, rfl⟩
    refine ⟨_, rfl, (HpG.out _).2 Kg, ?_⟩
    simp only [Act.put, List.setIfInBounds_toArray, List.set_cons_succ, List.set_cons_zero, Nat.reduceAdd]
    refine far.farO_stretch pG 3 0 8 e1' e2' e3' (by kernel_rfl) (by kernel_rfl) (fun κ w' hk1 hk2 hC => hC) ?_
    simp only [List.take_succ_cons, List.take_zero, List.drop_succ_cons, List.drop_zero, Nat.reduceAdd]
    repeat (go_big_quiet_step (fail))
    refine wpQuiet_nil ?_
    refine far.farO_enter e1' e2' 8 rfl rfl 12 #[nv X Y] (by kernel_rfl) (by kernel_rfl) ?_
    refine (plain_any _ X Y).mono ?_
    rintro e wi ⟨rfl, ki⟩
    have Ki := Kg.then ki
    refine ⟨_, rfl, (HpG.out _).2 Ki, ?_⟩
    simp only [Act.put, List.setIfInBounds_toArray, List.set_cons_succ, List.set_cons_zero, Nat.reduceAdd]
    refine far.farO_stretch pG 19 0 9 e1' e2' e3' (by kernel_rfl) (by kernel_rfl) (fun κ w' hk1 hk2 hC => hC) ?_
    simp only [List.take_succ_cons, List.take_zero, List.drop_succ_cons, List.drop_zero, Nat.reduceAdd]
    repeat (go_big_quiet_step (fail))
    refine wpQuiet_nil ?_
    refine far.farO_enter e1' e2' 9 rfl rfl 17 #[nv a0 b0, nv a1 b1] (by kernel_rfl) (by kernel_rfl) ?_
    refine (HLL.out _).mono ?_
    rintro e wj ⟨rfl, kj⟩
    have Kj := Ki.then kj
    refine ⟨_, rfl, (HpG.out _).2 Kj, ?_⟩
    simp only [Act.put, List.setIfInBounds_toArray, List.set_cons_succ, List.set_cons_zero, Nat.reduceAdd]
    refine far.farO_stretch pG 4 0 10 e1' e2' e3' (by kernel_rfl) (by kernel_rfl) (fun κ w' hk1 hk2 hC => hC) ?_
    simp only [List.take_succ_cons, List.take_zero, List.drop_succ_cons, List.drop_zero, Nat.reduceAdd]
    repeat (go_big_quiet_step (fail))
    refine wpQuiet_nil ?_
    refine far.farO_nil ?_
    clear xA0 xA1 xB0 xB1 xX0 xX1 xY0 xY1 iG HpG BY q1 hL hb2 hb3
    go_wp2
    go_ret
    exact ⟨by first | rfl | exact ret_bool (by simp; omega), (K5.then Kj).below⟩
  · go_enter Try.func3, Try.ntmps3
    go_wp2_with fail
    refine (first_any _).mono ?_
    rintro e w1 ⟨rfl, k1⟩
    have K1 : Chg no w w1 := (((Chg.refl no w).alloc _).alloc _).then k1
    have gA : w1.heap[w.heap.size]? = some (.cells #[.int .i64 a0, .int .i64 b0] 23 (0, 0)) := k1.heap (by rw [Below.heap_alloc _ _ _ (by simp)]; exact heap_alloc_new _ _) id
    have gB : w1.heap[w.heap.size + 1]? = some (.cells #[.int .i64 a1, .int .i64 b1] 23 (0, 0)) := k1.heap (by have := heap_alloc_new (w.alloc (.cells #[.int .i64 a0, .int .i64 b0] 23)) (.cells #[.int .i64 a1, .int .i64 b1] 23); rw [show (w.alloc (.cells #[.int .i64 a0, .int .i64 b0] 23)).heap.size = w.heap.size + 1 by simp] at this; exact this) id
    obtain ⟨N, hN⟩ : ∃ N, w.heap.size = N := ⟨_, rfl⟩
    obtain ⟨M, hM⟩ : ∃ M, N + 1 = M := ⟨_, rfl⟩
    simp only [hN, hM] at gA gB ⊢
    have HP1 := HP.out _ K1
    clear k1 HP hM
    go_wp2_with fail
    refine HP1.mono ?_
    rintro e w2 ⟨rfl, k2⟩
    have K3 : Chg no w (w2.alloc (.cells #[.int .i64 X, .int .i64 Y] 23)) := (K1.then k2).alloc _
    have gA2 := k2.heap gA id
    have gB2 := k2.heap gB id
    have HQ1 := HQ.out _ K3
    clear HP1 K1 HQ k2 gA gB
    go_wp2_with fail
    refine HQ1.mono ?_
    rintro e w4 ⟨rfl, k4⟩
    have K4 : Chg no w w4 := K3.then k4
    have k24 : Chg no w2 w4 := ((Chg.refl no w2).alloc _).then k4
    have gA4 := k24.heap gA2 id
    have gB4 := k24.heap gB2 id
    have gX4 : w4.heap[w2.heap.size]? = some (.cells #[.int .i64 X, .int .i64 Y] 23 (0, 0)) := k4.heap (heap_alloc_new _ _) id
    obtain ⟨c0, _⟩ := row_cell (xs := [_, _]) gA4 0 _ rfl
    obtain ⟨c1, _⟩ := row_cell (xs := [_, _]) gA4 1 _ rfl
    obtain ⟨c2, _⟩ := row_cell (xs := [_, _]) gB4 0 _ rfl
    obtain ⟨c3, _⟩ := row_cell (xs := [_, _]) gB4 1 _ rfl
    have lA := lt_of_block gA4
    have lB := lt_of_block gB4
    have k5 : Chg no w4 (w4.alloc (.cells #[.int .i64 X, .int .i64 Y] 29)) := (Chg.refl no w4).alloc _
    have gA5 := k5.heap gA4 id
    have gB5 := k5.heap gB4 id
    have gX5 := k5.heap gX4 id
    have gY5 : (w4.alloc (.cells #[.int .i64 X, .int .i64 Y] 29)).heap[w4.heap.size]? = some (.cells #[.int .i64 X, .int .i64 Y] 29 (0, 0)) := heap_alloc_new _ _
    have K5 := K4.then k5
    clear HQ1 k4 k24 k5 K4 K3 gA2 gB2 gA4 gB4 gX4
    go_wp2_with fail
    obtain ⟨w5, hw5⟩ : ∃ w5, w4.alloc (.cells #[.int .i64 X, .int .i64 Y] 29) = w5 := ⟨_, rfl⟩
    obtain ⟨R, hR⟩ : ∃ R, w2.heap.size = R := ⟨_, rfl⟩
    obtain ⟨S, hS⟩ : ∃ S, w4.heap.size = S := ⟨_, rfl⟩
    simp only [hw5, hR, hS] at gA5 gB5 gX5 gY5 K5 ⊢
    clear hw5 hR hS c0 c1 c2 c3 lA lB
    obtain ⟨pG, hpG⟩ : ∃ pG : World → Prop, ∀ w', pG w' ↔ Chg no w5 w' := ⟨_, fun _ => Iff.rfl⟩
    have xA0 : ∀ x' : far.InC pG, x'.w.cell? ⟨N, 0, none⟩ = some (.int .i64 a0) := fun x => (row_cell (xs := [_, _]) (((hpG _).1 x.h).heap gA5 id) 0 _ rfl).1
    have xA1 : ∀ x' : far.InC pG, x'.w.cell? ⟨N, 1, none⟩ = some (.int .i64 b0) := fun x => (row_cell (xs := [_, _]) (((hpG _).1 x.h).heap gA5 id) 1 _ rfl).1
    have xB0 : ∀ x' : far.InC pG, x'.w.cell? ⟨M, 0, none⟩ = some (.int .i64 a1) := fun x => (row_cell (xs := [_, _]) (((hpG _).1 x.h).heap gB5 id) 0 _ rfl).1
    have xB1 : ∀ x' : far.InC pG, x'.w.cell? ⟨M, 1, none⟩ = some (.int .i64 b1) := fun x => (row_cell (xs := [_, _]) (((hpG _).1 x.h).heap gB5 id) 1 _ rfl).1
    have xX0 : ∀ x' : far.InC pG, x'.w.cell? ⟨R, 0, none⟩ = some (.int .i64 X) := fun x => (row_cell (xs := [_, _]) (((hpG _).1 x.h).heap gX5 id) 0 _ rfl).1
    have xX1 : ∀ x' : far.InC pG, x'.w.cell? ⟨R, 1, none⟩ = some (.int .i64 Y) := fun x => (row_cell (xs := [_, _]) (((hpG _).1 x.h).heap gX5 id) 1 _ rfl).1
    have xY0 : ∀ x' : far.InC pG, x'.w.cell? ⟨S, 0, none⟩ = some (.int .i64 X) := fun x => (row_cell (xs := [_, _]) (((hpG _).1 x.h).heap gY5 id) 0 _ rfl).1
    have xY1 : ∀ x' : far.InC pG, x'.w.cell? ⟨S, 1, none⟩ = some (.int .i64 Y) := fun x => (row_cell (xs := [_, _]) (((hpG _).1 x.h).heap gY5 id) 1 _ rfl).1
    have iG : Nonempty (far.InC pG) := ⟨⟨w5, (hpG _).2 (Chg.refl _ _)⟩⟩
    have HpG : Hid (∀ w', pG w' ↔ Chg no w5 w') := hpG
    have Z0 : Chg no w5 w5.drew := (Chg.refl no w5).drew
    clear hpG gA5 gB5 gX5 gY5
    refine far.region_farM (fun κ w' => pG w') [0, 3, 5, 6, 11, 13, 14, 15, 19, 39] (by kernel_rfl) (by kernel_rfl) ((HpG.out _).2 Z0) ?_
    intro L e1' e2' e3'
    refine far.farO_enter e1' e2' 0 rfl rfl 8 #[] (by kernel_rfl) (by kernel_rfl) ?_
    refine (first_any _).mono ?_
    rintro e wa ⟨rfl, ka⟩
    have Ka := Z0.then ka
    refine ⟨_, rfl, (HpG.out _).2 Ka, ?_⟩
    simp only [Act.put, List.setIfInBounds_toArray, List.set_cons_succ, List.set_cons_zero, Nat.reduceAdd]
    refine far.farO_stretch pG 2 0 1 e1' e2' e3' (by kernel_rfl) (by kernel_rfl) (fun κ w' hk1 hk2 hC => hC) ?_
    simp only [List.take_succ_cons, List.take_zero, List.drop_succ_cons, List.drop_zero, Nat.reduceAdd]
    repeat (go_big_quiet_step (fail))
    refine wpQuiet_nil ?_
    refine far.farO_enter e1' e2' 1 rfl rfl 11 #[nv a0 b0] (by kernel_rfl) (by kernel_rfl) ?_
    refine (HMM.out _).mono ?_
    rintro e wb ⟨rfl, kb⟩
    have Kb := Ka.then kb
    refine ⟨_, rfl, (HpG.out _).2 Kb, ?_⟩
    simp only [Act.put, List.setIfInBounds_toArray, List.set_cons_succ, List.set_cons_zero, Nat.reduceAdd]
    refine far.farO_stretch pG 1 0 2 e1' e2' e3' (by kernel_rfl) (by kernel_rfl) (fun κ w' hk1 hk2 hC => hC) ?_
    simp only [List.take_succ_cons, List.take_zero, List.drop_succ_cons, List.drop_zero, Nat.reduceAdd]
    repeat (go_big_quiet_step (fail))
    refine wpQuiet_nil ?_
    refine far.farO_enter e1' e2' 2 rfl rfl 12 #[nv a0 b0] (by kernel_rfl) (by kernel_rfl) ?_
    refine (plain_any _ a0 b0).mono ?_
    rintro e wc ⟨rfl, kc⟩
    have Kc := Kb.then kc
    refine ⟨_, rfl, (HpG.out _).2 Kc, ?_⟩
    simp only [Act.put, List.setIfInBounds_toArray, List.set_cons_succ, List.set_cons_zero, Nat.reduceAdd]
    refine far.farO_enter e1' e2' 3 rfl rfl 13 #[nv a0 b0] (by kernel_rfl) (by kernel_rfl) ?_
    refine (HRR.out _).mono ?_
    rintro e wd ⟨rfl, kd⟩
    have Kd := Kc.then kd
    refine ⟨_, rfl, (HpG.out _).2 Kd, ?_⟩
    simp only [Act.put, List.setIfInBounds_toArray, List.set_cons_succ, List.set_cons_zero, Nat.reduceAdd]
    refine far.farO_stretch pG 4 0 4 e1' e2' e3' (by kernel_rfl) (by kernel_rfl) (fun κ w' hk1 hk2 hC => hC) ?_
    simp only [List.take_succ_cons, List.take_zero, List.drop_succ_cons, List.drop_zero, Nat.reduceAdd]
    repeat (go_big_quiet_step (fail))
    refine wpQuiet_nil ?_
    refine far.farO_enter e1' e2' 4 rfl rfl 15 #[nv a0 b0] (by kernel_rfl) (by kernel_rfl) ?_
    refine (bytes_any _ a0 b0).mono ?_
    rintro e we ⟨b, rfl, _, hb2, ke⟩
    have Ke := Kd.then ke
    refine ⟨_, rfl, (HpG.out _).2 Ke, ?_⟩
    simp only [Act.put, List.setIfInBounds_toArray, List.set_cons_succ, List.set_cons_zero, Nat.reduceAdd]
    refine far.farO_stretch pG 1 0 5 e1' e2' e3' (by kernel_rfl) (by kernel_rfl) (fun κ w' hk1 hk2 hC => hC) ?_
    simp only [List.take_succ_cons, List.take_zero, List.drop_succ_cons, List.drop_zero, Nat.reduceAdd]
    repeat (go_big_quiet_step (fail))
    refine wpQuiet_nil ?_
    refine far.farO_enter e1' e2' 5 rfl rfl 12 #[nv a0 b0] (by kernel_rfl) (by kernel_rfl) ?_
    refine (plain_any _ a0 b0).mono ?_
    rintro e wf ⟨rfl, kf⟩
    have Kf := Ke.then kf
    have hb3 := kf.heap hb2 id
    refine ⟨_, rfl, (HpG.out _).2 Kf, ?_⟩
    simp only [Act.put, List.setIfInBounds_toArray, List.set_cons_succ, List.set_cons_zero, Nat.reduceAdd]
    refine far.farO_enter e1' e2' 6 rfl rfl 16 #[nv a0 b0] (by kernel_rfl) (by kernel_rfl) ?_
    refine (rbytes_any _ a0 b0).mono ?_
    rintro e wg ⟨y, cy, J, rfl, hL, kg⟩
    have Kg := Kf.then kg
    have q1 := block_lies (kg.heap hb3 id)
    rw [nbs_length] at q1
    have BY := bytes_same q1 hL
    refine ⟨_, rfl, (HpG.out _).2 Kg, ?_⟩
    simp only [Act.put, List.setIfInBounds_toArray, List.set_cons_succ, List.set_cons_zero, Nat.reduceAdd]
    refine far.farO_enter e1' e2' 7 rfl rfl 14 #[.slice (some ⟨b, 0, none⟩) 12 12, .slice y 12 cy] (by kernel_rfl) (by kernel_rfl) ?_
    refine (BY).mono ?_
    rintro e wh ⟨rfl, rfl⟩
    refine ⟨_, rfl, (HpG.out _).2 Kg, ?_⟩
    simp only [Act.put, List.setIfInBounds_toArray, List.set_cons_succ, List.set_cons_zero, Nat.reduceAdd]
    refine far.farO_stretch pG 3 0 8 e1' e2' e3' (by kernel_rfl) (by kernel_rfl) (fun κ w' hk1 hk2 hC => hC) ?_
    simp only [List.take_succ_cons, List.take_zero, List.drop_succ_cons, List.drop_zero, Nat.reduceAdd]
    repeat (go_big_quiet_step (fail))
    refine wpQuiet_nil ?_
    refine far.farO_enter e1' e2' 8 rfl rfl 12 #[nv X Y] (by kernel_rfl) (by kernel_rfl) ?_
    refine (plain_any _ X Y).mono ?_
    rintro e wi ⟨rfl, ki⟩
    have Ki := Kg.then ki
    refine ⟨_, rfl, (HpG.out _).2 Ki, ?_⟩
    simp only [Act.put, List.setIfInBounds_toArray, List.set_cons_succ, List.set_cons_zero, Nat.reduceAdd]
    refine far.farO_stretch pG 19 0 9 e1' e2' e3' (by kernel_rfl) (by kernel_rfl) (fun κ w' hk1 hk2 hC => hC) ?_
    simp only [List.take_succ_cons, List.take_zero, List.drop_succ_cons, List.drop_zero, Nat.reduceAdd]
    repeat (go_big_quiet_step (fail))
    refine wpQuiet_nil ?_
    refine far.farO_enter e1' e2' 9 rfl rfl 17 #[nv a0 b0, nv a1 b1] (by kernel_rfl) (by kernel_rfl) ?_
    refine (HLL.out _).mono ?_
    rintro e wj ⟨rfl, kj⟩
    have Kj := Ki.then kj
    refine ⟨_, rfl, (HpG.out _).2 Kj, ?_⟩
    simp only [Act.put, List.setIfInBounds_toArray, List.set_cons_succ, List.set_cons_zero, Nat.reduceAdd]
    refine far.farO_stretch pG 4 0 10 e1' e2' e3' (by kernel_rfl) (by kernel_rfl) (fun κ w' hk1 hk2 hC => hC) ?_
    simp only [List.take_succ_cons, List.take_zero, List.drop_succ_cons, List.drop_zero, Nat.reduceAdd]
    repeat (go_big_quiet_step (fail))
    refine wpQuiet_nil ?_
    refine far.farO_nil ?_
    clear xA0 xA1 xB0 xB1 xX0 xX1 xY0 xY1 iG HpG BY q1 hL hb2 hb3
    go_wp2
    go_ret
    exact ⟨by first | rfl | exact ret_bool (by simp; omega), (K5.then Kj).below⟩
  · go_enter Try.func3, Try.ntmps3
    go_wp2_with fail
    refine (first_any _).mono ?_
    rintro e w1 ⟨rfl, k1⟩
    have K1 : Chg no w w1 := (((Chg.refl no w).alloc _).alloc _).then k1
    have gA : w1.heap[w.heap.size]? = some (.cells #[.int .i64 a0, .int .i64 b0] 23 (0, 0)) := k1.heap (by rw [Below.heap_alloc _ _ _ (by simp)]; exact heap_alloc_new _ _) id
    have gB : w1.heap[w.heap.size + 1]? = some (.cells #[.int .i64 a0, .int .i64 b1] 23 (0, 0)) := k1.heap (by have := heap_alloc_new (w.alloc (.cells #[.int .i64 a0, .int .i64 b0] 23)) (.cells #[.int .i64 a0, .int .i64 b1] 23); rw [show (w.alloc (.cells #[.int .i64 a0, .int .i64 b0] 23)).heap.size = w.heap.size + 1 by simp] at this; exact this) id
    obtain ⟨N, hN⟩ : ∃ N, w.heap.size = N := ⟨_, rfl⟩
    obtain ⟨M, hM⟩ : ∃ M, N + 1 = M := ⟨_, rfl⟩
    simp only [hN, hM] at gA gB ⊢
    have HP1 := HP.out _ K1
    clear k1 HP hM
    go_wp2_with fail
    refine HP1.mono ?_
    rintro e w2 ⟨rfl, k2⟩
    have K3 : Chg no w (w2.alloc (.cells #[.int .i64 X, .int .i64 Y] 23)) := (K1.then k2).alloc _
    have gA2 := k2.heap gA id
    have gB2 := k2.heap gB id
    have HQ1 := HQ.out _ K3
    clear HP1 K1 HQ k2 gA gB
    go_wp2_with fail
    refine HQ1.mono ?_
    rintro e w4 ⟨rfl, k4⟩
    have K4 : Chg no w w4 := K3.then k4
    have k24 : Chg no w2 w4 := ((Chg.refl no w2).alloc _).then k4
    have gA4 := k24.heap gA2 id
    have gB4 := k24.heap gB2 id
    have gX4 : w4.heap[w2.heap.size]? = some (.cells #[.int .i64 X, .int .i64 Y] 23 (0, 0)) := k4.heap (heap_alloc_new _ _) id
    obtain ⟨c0, _⟩ := row_cell (xs := [_, _]) gA4 0 _ rfl
    obtain ⟨c1, _⟩ := row_cell (xs := [_, _]) gA4 1 _ rfl
    obtain ⟨c2, _⟩ := row_cell (xs := [_, _]) gB4 0 _ rfl
    obtain ⟨c3, _⟩ := row_cell (xs := [_, _]) gB4 1 _ rfl
    have lA := lt_of_block gA4
    have lB := lt_of_block gB4
    have k5 : Chg no w4 (w4.alloc (.cells #[.int .i64 X, .int .i64 Y] 29)) := (Chg.refl no w4).alloc _
    have gA5 := k5.heap gA4 id
    have gB5 := k5.heap gB4 id
    have gX5 := k5.heap gX4 id
    have gY5 : (w4.alloc (.cells #[.int .i64 X, .int .i64 Y] 29)).heap[w4.heap.size]? = some (.cells #[.int .i64 X, .int .i64 Y] 29 (0, 0)) := heap_alloc_new _ _
    have K5 := K4.then k5
    clear HQ1 k4 k24 k5 K4 K3 gA2 gB2 gA4 gB4 gX4
    go_wp2_with fail
    obtain ⟨w5, hw5⟩ : ∃ w5, w4.alloc (.cells #[.int .i64 X, .int .i64 Y] 29) = w5 := ⟨_, rfl⟩
    obtain ⟨R, hR⟩ : ∃ R, w2.heap.size = R := ⟨_, rfl⟩
    obtain ⟨S, hS⟩ : ∃ S, w4.heap.size = S := ⟨_, rfl⟩
    simp only [hw5, hR, hS] at gA5 gB5 gX5 gY5 K5 ⊢
    clear hw5 hR hS c0 c1 c2 c3 lA lB
    obtain ⟨pG, hpG⟩ : ∃ pG : World → Prop, ∀ w', pG w' ↔ Chg no w5 w' := ⟨_, fun _ => Iff.rfl⟩
    have xA0 : ∀ x' : far.InC pG, x'.w.cell? ⟨N, 0, none⟩ = some (.int .i64 a0) := fun x => (row_cell (xs := [_, _]) (((hpG _).1 x.h).heap gA5 id) 0 _ rfl).1
    have xA1 : ∀ x' : far.InC pG, x'.w.cell? ⟨N, 1, none⟩ = some (.int .i64 b0) := fun x => (row_cell (xs := [_, _]) (((hpG _).1 x.h).heap gA5 id) 1 _ rfl).1
    have xB0 : ∀ x' : far.InC pG, x'.w.cell? ⟨M, 0, none⟩ = some (.int .i64 a0) := fun x => (row_cell (xs := [_, _]) (((hpG _).1 x.h).heap gB5 id) 0 _ rfl).1
    have xB1 : ∀ x' : far.InC pG, x'.w.cell? ⟨M, 1, none⟩ = some (.int .i64 b1) := fun x => (row_cell (xs := [_, _]) (((hpG _).1 x.h).heap gB5 id) 1 _ rfl).1
    have xX0 : ∀ x' : far.InC pG, x'.w.cell? ⟨R, 0, none⟩ = some (.int .i64 X) := fun x => (row_cell (xs := [_, _]) (((hpG _).1 x.h).heap gX5 id) 0 _ rfl).1
    have xX1 : ∀ x' : far.InC pG, x'.w.cell? ⟨R, 1, none⟩ = some (.int .i64 Y) := fun x => (row_cell (xs := [_, _]) (((hpG _).1 x.h).heap gX5 id) 1 _ rfl).1
    have xY0 : ∀ x' : far.InC pG, x'.w.cell? ⟨S, 0, none⟩ = some (.int .i64 X) := fun x => (row_cell (xs := [_, _]) (((hpG _).1 x.h).heap gY5 id) 0 _ rfl).1
    have xY1 : ∀ x' : far.InC pG, x'.w.cell? ⟨S, 1, none⟩ = some (.int .i64 Y) := fun x => (row_cell (xs := [_, _]) (((hpG _).1 x.h).heap gY5 id) 1 _ rfl).1
    have iG : Nonempty (far.InC pG) := ⟨⟨w5, (hpG _).2 (Chg.refl _ _)⟩⟩
    have HpG : Hid (∀ w', pG w' ↔ Chg no w5 w') := hpG
    have Z0 : Chg no w5 w5.drew := (Chg.refl no w5).drew
    clear hpG gA5 gB5 gX5 gY5
    refine far.region_farM (fun κ w' => pG w') [0, 3, 5, 6, 11, 13, 14, 15, 19, 39] (by kernel_rfl) (by kernel_rfl) ((HpG.out _).2 Z0) ?_
    intro L e1' e2' e3'
    refine far.farO_enter e1' e2' 0 rfl rfl 8 #[] (by kernel_rfl) (by kernel_rfl) ?_
    refine (first_any _).mono ?_
    rintro e wa ⟨rfl, ka⟩
    have Ka := Z0.then ka
    refine ⟨_, rfl, (HpG.out _).2 Ka, ?_⟩
    simp only [Act.put, List.setIfInBounds_toArray, List.set_cons_succ, List.set_cons_zero, Nat.reduceAdd]
    refine far.farO_stretch pG 2 0 1 e1' e2' e3' (by kernel_rfl) (by kernel_rfl) (fun κ w' hk1 hk2 hC => hC) ?_
    simp only [List.take_succ_cons, List.take_zero, List.drop_succ_cons, List.drop_zero, Nat.reduceAdd]
    repeat (go_big_quiet_step (fail))
    refine wpQuiet_nil ?_
    refine far.farO_enter e1' e2' 1 rfl rfl 11 #[nv a0 b0] (by kernel_rfl) (by kernel_rfl) ?_
    refine (HMM.out _).mono ?_
    rintro e wb ⟨rfl, kb⟩
    have Kb := Ka.then kb
    refine ⟨_, rfl, (HpG.out _).2 Kb, ?_⟩
    simp only [Act.put, List.setIfInBounds_toArray, List.set_cons_succ, List.set_cons_zero, Nat.reduceAdd]
    refine far.farO_stretch pG 1 0 2 e1' e2' e3' (by kernel_rfl) (by kernel_rfl) (fun κ w' hk1 hk2 hC => hC) ?_
    simp only [List.take_succ_cons, List.take_zero, List.drop_succ_cons, List.drop_zero, Nat.reduceAdd]
    repeat (go_big_quiet_step (fail))
    refine wpQuiet_nil ?_
    refine far.farO_enter e1' e2' 2 rfl rfl 12 #[nv a0 b0] (by kernel_rfl) (by kernel_rfl) ?_
    refine (plain_any _ a0 b0).mono ?_
    rintro e wc ⟨rfl, kc⟩
    have Kc := Kb.then kc
    refine ⟨_, rfl, (HpG.out _).2 Kc, ?_⟩
    simp only [Act.put, List.setIfInBounds_toArray, List.set_cons_succ, List.set_cons_zero, Nat.reduceAdd]
    refine far.farO_enter e1' e2' 3 rfl rfl 13 #[nv a0 b0] (by kernel_rfl) (by kernel_rfl) ?_
    refine (HRR.out _).mono ?_
    rintro e wd ⟨rfl, kd⟩
    have Kd := Kc.then kd
    refine ⟨_, rfl, (HpG.out _).2 Kd, ?_⟩
    simp only [Act.put, List.setIfInBounds_toArray, List.set_cons_succ, List.set_cons_zero, Nat.reduceAdd]
    refine far.farO_stretch pG 4 0 4 e1' e2' e3' (by kernel_rfl) (by kernel_rfl) (fun κ w' hk1 hk2 hC => hC) ?_
    simp only [List.take_succ_cons, List.take_zero, List.drop_succ_cons, List.drop_zero, Nat.reduceAdd]
    repeat (go_big_quiet_step (fail))
    refine wpQuiet_nil ?_
    refine far.farO_enter e1' e2' 4 rfl rfl 15 #[nv a0 b0] (by kernel_rfl) (by kernel_rfl) ?_
    refine (bytes_any _ a0 b0).mono ?_
    rintro e we ⟨b, rfl, _, hb2, ke⟩
    have Ke := Kd.then ke
    refine ⟨_, rfl, (HpG.out _).2 Ke, ?_⟩
    simp only [Act.put, List.setIfInBounds_toArray, List.set_cons_succ, List.set_cons_zero, Nat.reduceAdd]
    refine far.farO_stretch pG 1 0 5 e1' e2' e3' (by kernel_rfl) (by kernel_rfl) (fun κ w' hk1 hk2 hC => hC) ?_
    simp only [List.take_succ_cons, List.take_zero, List.drop_succ_cons, List.drop_zero, Nat.reduceAdd]
    repeat (go_big_quiet_step (fail))
    refine wpQuiet_nil ?_
    refine far.farO_enter e1' e2' 5 rfl rfl 12 #[nv a0 b0] (by kernel_rfl) (by kernel_rfl) ?_
    refine (plain_any _ a0 b0).mono ?_
    rintro e wf ⟨rfl, kf⟩
    have Kf := Ke.then kf
    have hb3 := kf.heap hb2 id
    refine ⟨_, rfl, (HpG.out _).2 Kf, ?_⟩
    simp only [Act.put, List.setIfInBounds_toArray, List.set_cons_succ, List.set_cons_zero, Nat.reduceAdd]
    refine far.farO_enter e1' e2' 6 rfl rfl 16 #[nv a0 b0] (by kernel_rfl) (by kernel_rfl) ?_
    refine (rbytes_any _ a0 b0).mono ?_
    rintro e wg ⟨y, cy, J, rfl, hL, kg⟩
    have Kg := Kf.then kg
    have q1 := block_lies (kg.heap hb3 id)
    rw [nbs_length] at q1
    have BY := bytes_same q1 hL
    refine ⟨_, rfl, (HpG.out _).2 Kg, ?_⟩
    simp only [Act.put, List.setIfInBounds_toArray, List.set_cons_succ, List.set_cons_zero, Nat.reduceAdd]
    refine far.farO_enter e1' e2' 7 rfl rfl 14 #[.slice (some ⟨b, 0, none⟩) 12 12, .slice y 12 cy] (by kernel_rfl) (by kernel_rfl) ?_
    refine (BY).mono ?_
    rintro e wh ⟨rfl, rfl⟩
    refine ⟨_, rfl, (HpG.out _).2 Kg, ?_⟩
    simp only [Act.put, List.setIfInBounds_toArray, List.set_cons_succ, List.set_cons_zero, Nat.reduceAdd]
    refine far.farO_stretch pG 3 0 8 e1' e2' e3' (by kernel_rfl) (by kernel_rfl) (fun κ w' hk1 hk2 hC => hC) ?_
    simp only [List.take_succ_cons, List.take_zero, List.drop_succ_cons, List.drop_zero, Nat.reduceAdd]
    repeat (go_big_quiet_step (fail))
    refine wpQuiet_nil ?_
    refine far.farO_enter e1' e2' 8 rfl rfl 12 #[nv X Y] (by kernel_rfl) (by kernel_rfl) ?_
    refine (plain_any _ X Y).mono ?_
    rintro e wi ⟨rfl, ki⟩
    have Ki := Kg.then ki
    refine ⟨_, rfl, (HpG.out _).2 Ki, ?_⟩
    simp only [Act.put, List.setIfInBounds_toArray, List.set_cons_succ, List.set_cons_zero, Nat.reduceAdd]
    refine far.farO_stretch pG 19 0 9 e1' e2' e3' (by kernel_rfl) (by kernel_rfl) (fun κ w' hk1 hk2 hC => hC) ?_
    simp only [List.take_succ_cons, List.take_zero, List.drop_succ_cons, List.drop_zero, Nat.reduceAdd]
    repeat (go_big_quiet_step (fail))
    refine wpQuiet_nil ?_
    refine far.farO_enter e1' e2' 9 rfl rfl 17 #[nv a0 b0, nv a0 b1] (by kernel_rfl) (by kernel_rfl) ?_
    refine (HLL.out _).mono ?_
    rintro e wj ⟨rfl, kj⟩
    have Kj := Ki.then kj
    refine ⟨_, rfl, (HpG.out _).2 Kj, ?_⟩
    simp only [Act.put, List.setIfInBounds_toArray, List.set_cons_succ, List.set_cons_zero, Nat.reduceAdd]
    refine far.farO_stretch pG 4 0 10 e1' e2' e3' (by kernel_rfl) (by kernel_rfl) (fun κ w' hk1 hk2 hC => hC) ?_
    simp only [List.take_succ_cons, List.take_zero, List.drop_succ_cons, List.drop_zero, Nat.reduceAdd]
    repeat (go_big_quiet_step (fail))
    refine wpQuiet_nil ?_
    refine far.farO_nil ?_
    clear xA0 xA1 xB0 xB1 xX0 xX1 xY0 xY1 iG HpG BY q1 hL hb2 hb3
    go_wp2
    go_ret
    exact ⟨by first | rfl | exact ret_bool (by simp; omega), (K5.then Kj).below⟩
  · go_enter Try.func3, Try.ntmps3
    go_wp2_with fail
    refine (first_any _).mono ?_
    rintro e w1 ⟨rfl, k1⟩
    have K1 : Chg no w w1 := (((Chg.refl no w).alloc _).alloc _).then k1
    have gA : w1.heap[w.heap.size]? = some (.cells #[.int .i64 a0, .int .i64 b0] 23 (0, 0)) := k1.heap (by rw [Below.heap_alloc _ _ _ (by simp)]; exact heap_alloc_new _ _) id
    have gB : w1.heap[w.heap.size + 1]? = some (.cells #[.int .i64 a0, .int .i64 b1] 23 (0, 0)) := k1.heap (by have := heap_alloc_new (w.alloc (.cells #[.int .i64 a0, .int .i64 b0] 23)) (.cells #[.int .i64 a0, .int .i64 b1] 23); rw [show (w.alloc (.cells #[.int .i64 a0, .int .i64 b0] 23)).heap.size = w.heap.size + 1 by simp] at this; exact this) id
    obtain ⟨N, hN⟩ : ∃ N, w.heap.size = N := ⟨_, rfl⟩
    obtain ⟨M, hM⟩ : ∃ M, N + 1 = M := ⟨_, rfl⟩
    simp only [hN, hM] at gA gB ⊢
    have HP1 := HP.out _ K1
    clear k1 HP hM
    go_wp2_with fail
    refine HP1.mono ?_
    rintro e w2 ⟨rfl, k2⟩
    have K3 : Chg no w (w2.alloc (.cells #[.int .i64 X, .int .i64 Y] 23)) := (K1.then k2).alloc _
    have gA2 := k2.heap gA id
    have gB2 := k2.heap gB id
    have HQ1 := HQ.out _ K3
    clear HP1 K1 HQ k2 gA gB
    go_wp2_with fail
    refine HQ1.mono ?_
    rintro e w4 ⟨rfl, k4⟩
    have K4 : Chg no w w4 := K3.then k4
    have k24 : Chg no w2 w4 := ((Chg.refl no w2).alloc _).then k4
    have gA4 := k24.heap gA2 id
    have gB4 := k24.heap gB2 id
    have gX4 : w4.heap[w2.heap.size]? = some (.cells #[.int .i64 X, .int .i64 Y] 23 (0, 0)) := k4.heap (heap_alloc_new _ _) id
    obtain ⟨c0, _⟩ := row_cell (xs := [_, _]) gA4 0 _ rfl
    obtain ⟨c1, _⟩ := row_cell (xs := [_, _]) gA4 1 _ rfl
    obtain ⟨c2, _⟩ := row_cell (xs := [_, _]) gB4 0 _ rfl
    obtain ⟨c3, _⟩ := row_cell (xs := [_, _]) gB4 1 _ rfl
    have lA := lt_of_block gA4
    have lB := lt_of_block gB4
    have k5 : Chg no w4 (w4.alloc (.cells #[.int .i64 X, .int .i64 Y] 29)) := (Chg.refl no w4).alloc _
    have gA5 := k5.heap gA4 id
    have gB5 := k5.heap gB4 id
    have gX5 := k5.heap gX4 id
    have gY5 : (w4.alloc (.cells #[.int .i64 X, .int .i64 Y] 29)).heap[w4.heap.size]? = some (.cells #[.int .i64 X, .int .i64 Y] 29 (0, 0)) := heap_alloc_new _ _
    have K5 := K4.then k5
    clear HQ1 k4 k24 k5 K4 K3 gA2 gB2 gA4 gB4 gX4
    go_wp2_with fail
    obtain ⟨w5, hw5⟩ : ∃ w5, w4.alloc (.cells #[.int .i64 X, .int .i64 Y] 29) = w5 := ⟨_, rfl⟩
    obtain ⟨R, hR⟩ : ∃ R, w2.heap.size = R := ⟨_, rfl⟩
    obtain ⟨S, hS⟩ : ∃ S, w4.heap.size = S := ⟨_, rfl⟩
    simp only [hw5, hR, hS] at gA5 gB5 gX5 gY5 K5 ⊢
    clear hw5 hR hS c0 c1 c2 c3 lA lB
    obtain ⟨pG, hpG⟩ : ∃ pG : World → Prop, ∀ w', pG w' ↔ Chg no w5 w' := ⟨_, fun _ => Iff.rfl⟩
    have xA0 : ∀ x' : far.InC pG, x'.w.cell? ⟨N, 0, none⟩ = some (.int .i64 a0) := fun x => (row_cell (xs := [_, _]) (((hpG _).1 x.h).heap gA5 id) 0 _ rfl).1
    have xA1 : ∀ x' : far.InC pG, x'.w.cell? ⟨N, 1, none⟩ = some (.int .i64 b0) := fun x => (row_cell (xs := [_, _]) (((hpG _).1 x.h).heap gA5 id) 1 _ rfl).1
    have xB0 : ∀ x' : far.InC pG, x'.w.cell? ⟨M, 0, none⟩ = some (.int .i64 a0) := fun x => (row_cell (xs := [_, _]) (((hpG _).1 x.h).heap gB5 id) 0 _ rfl).1
    have xB1 : ∀ x' : far.InC pG, x'.w.cell? ⟨M, 1, none⟩ = some (.int .i64 b1) := fun x => (row_cell (xs := [_, _]) (((hpG _).1 x.h).heap gB5 id) 1 _ rfl).1
    have xX0 : ∀ x' : far.InC pG, x'.w.cell? ⟨R, 0, none⟩ = some (.int .i64 X) := fun x => (row_cell (xs := [_, _]) (((hpG _).1 x.h).heap gX5 id) 0 _ rfl).1
    have xX1 : ∀ x' : far.InC pG, x'.w.cell? ⟨R, 1, none⟩ = some (.int .i64 Y) := fun x => (row_cell (xs := [_, _]) (((hpG _).1 x.h).heap gX5 id) 1 _ rfl).1
    have xY0 : ∀ x' : far.InC pG, x'.w.cell? ⟨S, 0, none⟩ = some (.int .i64 X) := fun x => (row_cell (xs := [_, _]) (((hpG _).1 x.h).heap gY5 id) 0 _ rfl).1
    have xY1 : ∀ x' : far.InC pG, x'.w.cell? ⟨S, 1, none⟩ = some (.int .i64 Y) := fun x => (row_cell (xs := [_, _]) (((hpG _).1 x.h).heap gY5 id) 1 _ rfl).1
    have iG : Nonempty (far.InC pG) := ⟨⟨w5, (hpG _).2 (Chg.refl _ _)⟩⟩
    have HpG : Hid (∀ w', pG w' ↔ Chg no w5 w') := hpG
    have Z0 : Chg no w5 w5.drew := (Chg.refl no w5).drew
    clear hpG gA5 gB5 gX5 gY5
    refine far.region_farM (fun κ w' => pG w') [0, 3, 5, 6, 11, 13, 14, 15, 19, 39] (by kernel_rfl) (by kernel_rfl) ((HpG.out _).2 Z0) ?_
    intro L e1' e2' e3'
    refine far.farO_enter e1' e2' 0 rfl rfl 8 #[] (by kernel_rfl) (by kernel_rfl) ?_
    refine (first_any _).mono ?_
    rintro e wa ⟨rfl, ka⟩
    have Ka := Z0.then ka
    refine ⟨_, rfl, (HpG.out _).2 Ka, ?_⟩
    simp only [Act.put, List.setIfInBounds_toArray, List.set_cons_succ, List.set_cons_zero, Nat.reduceAdd]
    refine far.farO_stretch pG 2 0 1 e1' e2' e3' (by kernel_rfl) (by kernel_rfl) (fun κ w' hk1 hk2 hC => hC) ?_
    simp only [List.take_succ_cons, List.take_zero, List.drop_succ_cons, List.drop_zero, Nat.reduceAdd]
    repeat (go_big_quiet_step (fail))
    refine wpQuiet_nil ?_
    refine far.farO_enter e1' e2' 1 rfl rfl 11 #[nv a0 b0] (by kernel_rfl) (by kernel_rfl) ?_
    refine (HMM.out _).mono ?_
    rintro e wb ⟨rfl, kb⟩
    have Kb := Ka.then kb
    refine ⟨_, rfl, (HpG.out _).2 Kb, ?_⟩
    simp only [Act.put, List.setIfInBounds_toArray, List.set_cons_succ, List.set_cons_zero, Nat.reduceAdd]
    refine far.farO_stretch pG 1 0 2 e1' e2' e3' (by kernel_rfl) (by kernel_rfl) (fun κ w' hk1 hk2 hC => hC) ?_
    simp only [List.take_succ_cons, List.take_zero, List.drop_succ_cons, List.drop_zero, Nat.reduceAdd]
    repeat (go_big_quiet_step (fail))
    refine wpQuiet_nil ?_
    refine far.farO_enter e1' e2' 2 rfl rfl 12 #[nv a0 b0] (by kernel_rfl) (by kernel_rfl) ?_
    refine (plain_any _ a0 b0).mono ?_
    rintro e wc ⟨rfl, kc⟩
    have Kc := Kb.then kc
    refine ⟨_, rfl, (HpG.out _).2 Kc, ?_⟩
    simp only [Act.put, List.setIfInBounds_toArray, List.set_cons_succ, List.set_cons_zero, Nat.reduceAdd]
    refine far.farO_enter e1' e2' 3 rfl rfl 13 #[nv a0 b0] (by kernel_rfl) (by kernel_rfl) ?_
    refine (HRR.out _).mono ?_
    rintro e wd ⟨rfl, kd⟩
    have Kd := Kc.then kd
    refine ⟨_, rfl, (HpG.out _).2 Kd, ?_⟩
    simp only [Act.put, List.setIfInBounds_toArray, List.set_cons_succ, List.set_cons_zero, Nat.reduceAdd]
    refine far.farO_stretch pG 4 0 4 e1' e2' e3' (by kernel_rfl) (by kernel_rfl) (fun κ w' hk1 hk2 hC => hC) ?_
    simp only [List.take_succ_cons, List.take_zero, List.drop_succ_cons, List.drop_zero, Nat.reduceAdd]
    repeat (go_big_quiet_step (fail))
    refine wpQuiet_nil ?_
    refine far.farO_enter e1' e2' 4 rfl rfl 15 #[nv a0 b0] (by kernel_rfl) (by kernel_rfl) ?_
    refine (bytes_any _ a0 b0).mono ?_
    rintro e we ⟨b, rfl, _, hb2, ke⟩
    have Ke := Kd.then ke
    refine ⟨_, rfl, (HpG.out _).2 Ke, ?_⟩
    simp only [Act.put, List.setIfInBounds_toArray, List.set_cons_succ, List.set_cons_zero, Nat.reduceAdd]
    refine far.farO_stretch pG 1 0 5 e1' e2' e3' (by kernel_rfl) (by kernel_rfl) (fun κ w' hk1 hk2 hC => hC) ?_
    simp only [List.take_succ_cons, List.take_zero, List.drop_succ_cons, List.drop_zero, Nat.reduceAdd]
    repeat (go_big_quiet_step (fail))
    refine wpQuiet_nil ?_
    refine far.farO_enter e1' e2' 5 rfl rfl 12 #[nv a0 b0] (by kernel_rfl) (by kernel_rfl) ?_
    refine (plain_any _ a0 b0).mono ?_
    rintro e wf ⟨rfl, kf⟩
    have Kf := Ke.then kf
    have hb3 := kf.heap hb2 id
    refine ⟨_, rfl, (HpG.out _).2 Kf, ?_⟩
    simp only [Act.put, List.setIfInBounds_toArray, List.set_cons_succ, List.set_cons_zero, Nat.reduceAdd]
    refine far.farO_enter e1' e2' 6 rfl rfl 16 #[nv a0 b0] (by kernel_rfl) (by kernel_rfl) ?_
    refine (rbytes_any _ a0 b0).mono ?_
    rintro e wg ⟨y, cy, J, rfl, hL, kg⟩
    have Kg := Kf.then kg
    have q1 := block_lies (kg.heap hb3 id)
    rw [nbs_length] at q1
    have BY := bytes_same q1 hL
    refine ⟨_, rfl, (HpG.out _).2 Kg, ?_⟩
    simp only [Act.put, List.setIfInBounds_toArray, List.set_cons_succ, List.set_cons_zero, Nat.reduceAdd]
    refine far.farO_enter e1' e2' 7 rfl rfl 14 #[.slice (some ⟨b, 0, none⟩) 12 12, .slice y 12 cy] (by kernel_rfl) (by kernel_rfl) ?_
    refine (BY).mono ?_
    rintro e wh ⟨rfl, rfl⟩
    refine ⟨_, rfl, (HpG.out _).2 Kg, ?_⟩
    simp only [Act.put, List.setIfInBounds_toArray, List.set_cons_succ, List.set_cons_zero, Nat.reduceAdd]
    refine far.farO_stretch pG 3 0 8 e1' e2' e3' (by kernel_rfl) (by kernel_rfl) (fun κ w' hk1 hk2 hC => hC) ?_
    simp only [List.take_succ_cons, List.take_zero, List.drop_succ_cons, List.drop_zero, Nat.reduceAdd]
    repeat (go_big_quiet_step (fail))
    refine wpQuiet_nil ?_
    refine far.farO_enter e1' e2' 8 rfl rfl 12 #[nv X Y] (by kernel_rfl) (by kernel_rfl) ?_
    refine (plain_any _ X Y).mono ?_
    rintro e wi ⟨rfl, ki⟩
    have Ki := Kg.then ki
    refine ⟨_, rfl, (HpG.out _).2 Ki, ?_⟩
    simp only [Act.put, List.setIfInBounds_toArray, List.set_cons_succ, List.set_cons_zero, Nat.reduceAdd]
    refine far.farO_stretch pG 19 0 9 e1' e2' e3' (by kernel_rfl) (by kernel_rfl) (fun κ w' hk1 hk2 hC => hC) ?_
    simp only [List.take_succ_cons, List.take_zero, List.drop_succ_cons, List.drop_zero, Nat.reduceAdd]
    repeat (go_big_quiet_step (fail))
    refine wpQuiet_nil ?_
    refine far.farO_enter e1' e2' 9 rfl rfl 17 #[nv a0 b0, nv a0 b1] (by kernel_rfl) (by kernel_rfl) ?_
    refine (HLL.out _).mono ?_
    rintro e wj ⟨rfl, kj⟩
    have Kj := Ki.then kj
    refine ⟨_, rfl, (HpG.out _).2 Kj, ?_⟩
    simp only [Act.put, List.setIfInBounds_toArray, List.set_cons_succ, List.set_cons_zero, Nat.reduceAdd]
    refine far.farO_stretch pG 4 0 10 e1' e2' e3' (by kernel_rfl) (by kernel_rfl) (fun κ w' hk1 hk2 hC => hC) ?_
    simp only [List.take_succ_cons, List.take_zero, List.drop_succ_cons, List.drop_zero, Nat.reduceAdd]
    repeat (go_big_quiet_step (fail))
    refine wpQuiet_nil ?_
    refine far.farO_nil ?_
    clear xA0 xA1 xB0 xB1 xX0 xX1 xY0 xY1 iG HpG BY q1 hL hb2 hb3
    go_wp2
    go_ret
    exact ⟨by first | rfl | exact ret_bool (by simp; omega), (K5.then Kj).below⟩

theorem walk (w : World) (a0 b0 a1 b1 : Int) (x : Option Addr) (len cap : Nat) (zs : List Int) (w0 : (Lit.int .i64 a0).wf = true) (wb0 : (Lit.int .i64 b0).wf = true) (w1 : (Lit.int .i64 a1).wf = true) (wb1 : (Lit.int .i64 b1).wf = true)
    (w2 : Lies (Old w) w (.slice x len cap) (zs.map (Value.int .u8)) ∧ Bytes zs) (c2 : len ≤ cap ∧ cap ≤ maxLen) :
    Calls Try.prog 3 #[nv a0 b0, nv a1 b1, .slice x len cap] w fun e w' => e = .returned (.bool true) ∧ Below w.heap.size w w' := by
  by_cases hh : 1000 < len
  · exact early w a0 b0 a1 b1 x len cap hh
  · obtain ⟨X, Y, er, ok, hk, HP, HQ⟩ := both w x len cap zs w2.1 w2.2 c2
    exact late w a0 b0 a1 b1 x len cap X Y er ok (by omega) hk HP HQ

theorem own : ownKnob Try.prog.godebug = none := by kernel_rfl
theorem laidOut : laidOutB Try.prog = true := by kernel_rfl

set_option maxRecDepth 100000 in
theorem lifted (os : Os) (started : os.Started) (H : Type) (enc : TypeId × Value → H) :
    ReturnsInHanded {} Try.checked os 3 .any (Rows.nonceBytesSpec.pre6 enc Try.prog Try.f3 Rows.nonceBytesRow.domain false) (Rows.nonceBytesSpec.post enc Try.prog Try.f3 false true false false) := by
  refine returnsInHanded_of_change (C := Try.checked) own started (by kernel_rfl) Try.func3
    (ChangeSpec.witness6 (enc := enc) (C := Try.checked) false ⟨#[], #[.agg #[.int .i64 0, .int .i64 0], .agg #[.int .i64 0, .int .i64 0], .slice none 0 0], []⟩ 8 (by kernel_rfl) (by kernel_rfl) (by kernel_rfl) (by kernel_rfl)) ?_
  intro W base args ds gs before hval0 hW hcnd _
  have hval : ∀ (j : Nat) t v, Try.f3.params[j]? = some t → args[j]? = some v → Value.okWide Try.prog W .any base t v := hval0
  have hW' := hW
  obtain ⟨p, q, hA0, hV, rfl, hfz, hnd⟩ := hW
  have hA : DataW.TrodAll enc Try.prog W 0 (fun _ => true) true Try.f3.params.toList args.toList ds p := hA0
  rw [Try.params3] at hA hval
  obtain ⟨v0, vs0, d0, ds0, p0, q0, hargs, rfl, rfl, h0, r0⟩ := trodAll_cons hA
  obtain ⟨v1, vs1, d1, ds1, p1, q1, rfl, rfl, rfl, h1, r1⟩ := trodAll_cons r0
  obtain ⟨v2, vs2, d2, ds2, p2, q2, rfl, rfl, rfl, h2, r2⟩ := trodAll_cons r1
  obtain ⟨rfl, rfl, rfl⟩ := trodAll_nil r2
  obtain rfl : args = #[v0, v1, v2] := by cases args; simp_all
  obtain ⟨rfl, rfl⟩ := trodVars_none hV
  obtain ⟨a0, b0, rfl, rfl, rfl, w0, wb0⟩ := open_nonce (hval 0 23 v0 rfl rfl) h0
  obtain ⟨a1, b1, rfl, rfl, rfl, w1, wb1⟩ := open_nonce (hval 1 23 v1 rfl rfl) h1
  obtain ⟨a2, len2, cap2, rfl⟩ := okWide_slice Try.underlying24 (hval 2 24 v2 rfl rfl)
  have k2 := h2
  have lt2 : ∀ x ∈ p2, x.block < W.heap.size := by obtain ⟨m, hm⟩ := k2; exact DataW.trod_lt m _ _ _ hm
  have c2 : len2 ≤ cap2 ∧ cap2 ≤ maxLen := by obtain ⟨m, hm⟩ := k2; exact open_cap Try.underlying24 hm
  obtain ⟨z2, w2⟩ := (by obtain ⟨fuel, hf⟩ := h2; exact open_bytes hf : ∃ z : List Int, Lies (Old W) W (.slice a2 len2 cap2) (z.map (Value.int .u8)) ∧ Bytes z)
  clear hA0 hval0
  refine (walk W a0 b0 a1 b1 a2 len2 cap2 z2 w0 wb0 w1 wb1 w2 c2).mono fun e W' ⟨he, bel⟩ => ?_
  subst he
  exact ⟨_, rfl, _, _, _, [], _, [], hW', trodAll_mk1 (shut_bool Try.underlying4 _), (trodAll_cons_mk (shut_nonce w0 wb0) (trodAll_cons_mk (shut_nonce w1 wb1) (trodAll_cons_mk (Below.trod laidOut (by kernel_rfl) (of_decide_eq_true (by kernel_rfl)) k2 bel lt2) trodAll_mk0))), rfl, bel.frame _, fun h => by cases h⟩

theorem over : Rows.nonceBytesRow.holds Try.pinned (OpenSpec.ofChange Rows.nonceBytesSpec) :=
  OpenClaim.holds_of_wide 3 Try.f3 rfl rfl rfl rfl rfl rfl rfl ⟨rfl, rfl, rfl, rfl, rfl⟩ rfl rfl rfl rfl rfl (by kernel_rfl) Try.func3 (by kernel_rfl)
    (of_decide_eq_true (by kernel_rfl)) (by unfold Func.isWrapper; first | (rw [if_pos (by decide +kernel)]; kernel_rfl) | (rw [if_neg (by decide +kernel)]; exact ⟨rfl, rfl⟩))
    (fun os started H enc _ => lifted os started H enc)

theorem proved : Rows.NonceBytesSaid := over
end Go.Proofs.Ythmpkalalceapaa.nonceBytes
namespace Go.Proofs.Ythmpkalalceapaa
theorem nonceBytes_holds : Rows.NonceBytesSaid := nonceBytes.proved
#print axioms nonceBytes_holds
end Go.Proofs.Ythmpkalalceapaa
