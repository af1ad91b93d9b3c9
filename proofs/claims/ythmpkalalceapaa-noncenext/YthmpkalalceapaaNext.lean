/-
  Proved: for every four numbers the law NonceNext returns true; no condition.
-/
import Derived.Test.YthmpkalalceapaaNextS
import Derived.Below
namespace Go.Proofs.Ythmpkalalceapaa.nonceNext
open Go.ChangeShapes Go.WideShapes Go.ChangeAt Go.RowKit Go.Proofs.Ythmpkalalceapaa.hp Go.Proofs.Ythmpkalalceapaa.dg Go.Proofs.Ythmpkalalceapaa.st
set_option linter.unusedVariables false

set_option maxRecDepth 100000 in
set_option maxHeartbeats 2000000 in
theorem early (w : World) (a0 a1 a2 a3 : Int) (hh : a3 < 0 ∨ 300 < a3) :
    Calls Try.prog 4 #[.int .i64 a0, .int .i64 a1, .int .i64 a2, .int .i64 a3] w fun e w' => e = .returned (.bool true) ∧ Below w.heap.size w w' := by
  have hc : (a3 < 0) ∨ (0 ≤ a3 ∧ 300 < a3) := by omega
  clear hh
  rcases hc with h1 | ⟨h1, h2⟩
  all_goals
    go_enter Try.func4, Try.ntmps4
    go_wp2_with fail
    refine (first_any _).mono ?_
    rintro e w1 ⟨rfl, k1⟩
    go_wp2_with fail
    refine (first_any _).mono ?_
    rintro e w3 ⟨rfl, k3⟩
    go_wp2
    go_ret
    exact ⟨rfl, (k1.then k3).below⟩

set_option maxRecDepth 100000 in
set_option maxHeartbeats 4000000 in
theorem nofit (w : World) (a0 a1 a2 a3 : Int) (h1 : 0 ≤ a3) (h2 : a3 ≤ 300) (hf : fits a0 a1 a2 = false) :
    Calls Try.prog 4 #[.int .i64 a0, .int .i64 a1, .int .i64 a2, .int .i64 a3] w fun e w' => e = .returned (.bool true) ∧ Below w.heap.size w w' := by
  have HA := fun w => at_none w a0 a1 a2 hf
  have hc : (a0 < 1) ∨ (1 ≤ a0 ∧ 1099511627776 < a0) ∨ (1 ≤ a0 ∧ a0 ≤ 1099511627776 ∧ a1 < 0) ∨ (1 ≤ a0 ∧ a0 ≤ 1099511627776 ∧ 0 ≤ a1 ∧ a2 < a1) ∨ (1 ≤ a0 ∧ a0 ≤ 1099511627776 ∧ 0 ≤ a1 ∧ a1 ≤ a2 ∧ 1099511627776 < a2) := by
    have := of_decide_eq_false hf
    omega
  clear hf
  rcases hc with h3 | ⟨h3, h4⟩ | ⟨h3, h4, h5⟩ | ⟨h3, h4, h5, h6⟩ | ⟨h3, h4, h5, h6, h7⟩
  all_goals
    try (have d7 : decide (a2 ≤ 1099511627776) = false := decide_eq_false (by omega))
    first
      | (have HF : ∀ w, Calls Try.prog 19 #[.int .i64 a0] w fun e w' => e = .returned (.pointer none) ∧ w' = w := fun w => from_none w a0 (by omega)
         go_enter Try.func4, Try.ntmps4
         go_wp2_with fail
         refine (first_any _).mono ?_
         rintro e w1 ⟨rfl, k1⟩
         go_wp2_with fail
         refine (HA _).mono ?_
         rintro e w2 ⟨rfl, rfl⟩
         go_wp2_with fail
         refine (HF _).mono ?_
         rintro e w2 ⟨rfl, rfl⟩
         go_wp2_with fail
         refine (first_any _).mono ?_
         rintro e w3 ⟨rfl, k3⟩
         go_wp2
         go_ret
         exact ⟨rfl, (k1.then k3).below⟩)
      | (have HF : ∀ w, Calls Try.prog 19 #[.int .i64 a0] w fun e w' => e = .returned (.pointer (some ⟨w.heap.size, 0, none⟩)) ∧ Src w' w.heap.size 47 a0 0 1099511627776 ∧ Chg no w w' := fun w => from_some w a0 (by omega)
         go_enter Try.func4, Try.ntmps4
         go_wp2_with fail
         refine (first_any _).mono ?_
         rintro e w1 ⟨rfl, k1⟩
         go_wp2_with fail
         refine (HA _).mono ?_
         rintro e w2 ⟨rfl, rfl⟩
         go_wp2_with fail
         refine (HF _).mono ?_
         rintro e w2 ⟨rfl, _, k2⟩
         go_wp2_with fail
         refine (first_any _).mono ?_
         rintro e w3 ⟨rfl, k3⟩
         go_wp2
         go_ret
         exact ⟨rfl, ((k1.then k2).then k3).below⟩)

set_option maxRecDepth 100000 in
set_option maxHeartbeats 8000000 in
theorem late (w : World) (g c0 m : Int) (n : Nat) (h3 : n ≤ 300) (f1 : 1 ≤ g) (f2 : g ≤ 1099511627776) (f3 : 0 ≤ c0) (f4 : c0 ≤ m) (f5 : m ≤ 1099511627776) :
    Calls Try.prog 4 #[.int .i64 g, .int .i64 c0, .int .i64 m, .int .i64 n] w fun e w' => e = .returned (.bool true) ∧ Below w.heap.size w w' := by
  have i3 : (n : Int) ≤ 300 := by omega
  have HA := fun w => at_some w g c0 m (decide_eq_true ⟨f1, f2, f3, f4, f5⟩)
  have HF := fun w => from_some w g ⟨f1, f2⟩
  go_enter Try.func4, Try.ntmps4
  go_wp2_with fail
  refine (first_any _).mono ?_
  rintro e w1 ⟨rfl, k1⟩
  go_wp2_with fail
  refine (HA _).mono ?_
  rintro e w2 ⟨rfl, s2, k2⟩
  have hz1 := k1.size
  have hl2 := s2.lt
  have K2 := k1.then k2
  obtain ⟨p, hp⟩ : ∃ p, w1.heap.size = p := ⟨_, rfl⟩
  rw [hp] at s2 hz1 hl2 ⊢
  clear HA k1 k2 hp
  go_wp2_with fail
  refine (HF _).mono ?_
  rintro e w3 ⟨rfl, _, k3⟩
  have z3 := k3.size
  have hE : N2 w p w3.heap.size g c0 c0 m (w3.alloc (.cells #[.int .i64 g, .int .i64 c0, .int .i64 m] 42)) :=
    ⟨(s2.chg k3 id).chg ((Chg.refl no w3).alloc _) id, heap_alloc_new _ _, (K2.then k3).alloc _, hz1, by have := K2.size; omega, by omega⟩
  clear HF s2 K2 k3
  go_wp2_with fail
  obtain ⟨q, hq⟩ : ∃ q, w3.heap.size = q := ⟨_, rfl⟩
  obtain ⟨w4, hw4⟩ : ∃ w4, w3.alloc (.cells #[.int .i64 g, .int .i64 c0, .int .i64 m] 42) = w4 := ⟨_, rfl⟩
  rw [hq, hw4] at hE
  simp only [hq, hw4]
  clear hq hw4 z3 hl2
  go_loopw [12] (fun i wr => ∃ (j : Nat) (c : Int), j ≤ n ∧ i = .int .i64 (j : Int) ∧ 0 ≤ c ∧ c ≤ m ∧ N2 w p q g c c m wr) (fun i _ => n - (intOf i).toNat)
  case atStart => exact ⟨0, c0, by omega, rfl, f3, f4, hE⟩
  case round =>
    clear hE f3 f4
    obtain ⟨j, c, hj, rfl, b1, b2, hB⟩ := hrel
    by_cases hjn : j < n
    · have hji : (j : Int) < n := by omega
      have HN := hB.next b1 b2 f5
      have HR := fun w' (h : N2 w p q g (tn c m) c m w') => h.rnext b1 b2 f5
      obtain ⟨d1, d2⟩ := tn_in b1 b2
      obtain ⟨G, hG⟩ : ∃ G, tg g c m = G := ⟨_, rfl⟩
      obtain ⟨C, hC⟩ : ∃ C, tc c m = C := ⟨_, rfl⟩
      obtain ⟨E, hE⟩ : ∃ E, te c m = E := ⟨_, rfl⟩
      obtain ⟨D, hD⟩ : ∃ D, tn c m = D := ⟨_, rfl⟩
      simp only [hG, hC, hE, hD] at HN HR d1 d2
      have HRR : Hid (∀ w', N2 w p q g D c m w' → Calls Try.prog 21 #[.pointer (some ⟨q, 0, none⟩)] w' fun e w'' => e = .returned (.tuple #[nv G C, .int .i64 E]) ∧ N2 w p q g D D m w'' ∧ Chg (fun k => k = q) w' w'') := HR
      clear hG hC hE hD HR hB
      go_wp2_with fail
      refine HN.mono ?_
      rintro e w5 ⟨rfl, h5⟩
      have hq5 := h5.sq.lt
      have h6 := h5.same ((Chg.refl no w5).alloc (.cells #[.int .i64 G, .int .i64 C] 23))
      have HR6 := HRR.out _ h6
      clear HN h5 h6 HRR
      go_wp2_with fail
      refine HR6.mono ?_
      rintro e w7 ⟨rfl, h7, k7⟩
      have g7 : w7.heap[w5.heap.size]? = some (.cells #[.int .i64 G, .int .i64 C] 23 (0, 0)) := k7.heap (heap_alloc_new _ _) (by omega)
      have K8 : Chg no w7 (w7.alloc (.cells #[.int .i64 G, .int .i64 C] 29)) := (Chg.refl no w7).alloc _
      have g8 := K8.heap g7 id
      have gb : (w7.alloc (.cells #[.int .i64 G, .int .i64 C] 29)).heap[w7.heap.size]? = some (.cells #[.int .i64 G, .int .i64 C] 29 (0, 0)) := heap_alloc_new _ _
      have h8 := h7.same K8
      clear HR6 h7 k7 g7 K8
      go_wp2_with fail
      obtain ⟨w8, hw8⟩ : ∃ w8, w7.alloc (.cells #[.int .i64 G, .int .i64 C] 29) = w8 := ⟨_, rfl⟩
      obtain ⟨A, hA⟩ : ∃ A, w5.heap.size = A := ⟨_, rfl⟩
      obtain ⟨B, hB⟩ : ∃ B, w7.heap.size = B := ⟨_, rfl⟩
      simp only [hw8, hA, hB] at g8 gb h8 ⊢
      clear hw8 hA hB hq5
      obtain ⟨pG, hpG⟩ : ∃ pG : World → Prop, ∀ w', pG w' ↔ Chg no w8 w' := ⟨_, fun _ => Iff.rfl⟩
      have xA0 : ∀ x' : far.InC pG, x'.w.cell? ⟨A, 0, none⟩ = some (.int .i64 G) := fun x => (row_cell (xs := [_, _]) (((hpG _).1 x.h).heap g8 id) 0 _ rfl).1
      have xA1 : ∀ x' : far.InC pG, x'.w.cell? ⟨A, 1, none⟩ = some (.int .i64 C) := fun x => (row_cell (xs := [_, _]) (((hpG _).1 x.h).heap g8 id) 1 _ rfl).1
      have xB0 : ∀ x' : far.InC pG, x'.w.cell? ⟨B, 0, none⟩ = some (.int .i64 G) := fun x => (row_cell (xs := [_, _]) (((hpG _).1 x.h).heap gb id) 0 _ rfl).1
      have xB1 : ∀ x' : far.InC pG, x'.w.cell? ⟨B, 1, none⟩ = some (.int .i64 C) := fun x => (row_cell (xs := [_, _]) (((hpG _).1 x.h).heap gb id) 1 _ rfl).1
      have xp0 : ∀ x' : far.InC pG, x'.w.cell? ⟨p, 0, none⟩ = some (.int .i64 g) := fun x => (row_cell (xs := [_, _, _]) (((hpG _).1 x.h).heap h8.sp id) 0 _ rfl).1
      have xp1 : ∀ x' : far.InC pG, x'.w.cell? ⟨p, 1, none⟩ = some (.int .i64 D) := fun x => (row_cell (xs := [_, _, _]) (((hpG _).1 x.h).heap h8.sp id) 1 _ rfl).1
      have xq0 : ∀ x' : far.InC pG, x'.w.cell? ⟨q, 0, none⟩ = some (.int .i64 g) := fun x => (row_cell (xs := [_, _, _]) (((hpG _).1 x.h).heap h8.sq id) 0 _ rfl).1
      have xq1 : ∀ x' : far.InC pG, x'.w.cell? ⟨q, 1, none⟩ = some (.int .i64 D) := fun x => (row_cell (xs := [_, _, _]) (((hpG _).1 x.h).heap h8.sq id) 1 _ rfl).1
      have iG : Nonempty (far.InC pG) := ⟨⟨w8, (hpG _).2 (Chg.refl _ _)⟩⟩
      have HpG : Hid (∀ w', pG w' ↔ Chg no w8 w') := hpG
      have H8 : Hid (N2 w p q g D D m w8) := h8
      have K0 : Chg no w8 w8.drew := (Chg.refl no w8).drew
      clear hpG g8 gb h8
      refine far.region_farM (fun κ w' => pG w') [1, 14, 23, 38, 43, 44] (by kernel_rfl) (by kernel_rfl) ((HpG.out _).2 K0) ?_
      intro L e1' e2' e3'
      refine far.farO_stretch pG 1 0 0 e1' e2' e3' (by kernel_rfl) (by kernel_rfl) (fun κ w' hk1 hk2 hC => hC) ?_
      simp only [List.take_succ_cons, List.take_zero, List.drop_succ_cons, List.drop_zero, Nat.reduceAdd]
      repeat (go_big_quiet_step (fail))
      refine wpQuiet_nil ?_
      refine far.farO_enter e1' e2' 0 rfl rfl 12 #[nv G C] (by kernel_rfl) (by kernel_rfl) ?_
      refine (plain_any _ G C).mono ?_
      rintro e wa ⟨rfl, ka⟩
      have Ka := K0.then ka
      refine ⟨_, rfl, (HpG.out _).2 Ka, ?_⟩
      simp only [Act.put, List.setIfInBounds_toArray, List.set_cons_succ, List.set_cons_zero, Nat.reduceAdd]
      refine far.farO_stretch pG 12 0 1 e1' e2' e3' (by kernel_rfl) (by kernel_rfl) (fun κ w' hk1 hk2 hC => hC) ?_
      simp only [List.take_succ_cons, List.take_zero, List.drop_succ_cons, List.drop_zero, Nat.reduceAdd]
      repeat (go_big_quiet_step (fail))
      refine wpQuiet_nil ?_
      refine far.farO_enter e1' e2' 1 rfl rfl 12 #[nv g D] (by kernel_rfl) (by kernel_rfl) ?_
      refine (plain_any _ g D).mono ?_
      rintro e wb ⟨rfl, kb⟩
      have Kb := Ka.then kb
      refine ⟨_, rfl, (HpG.out _).2 Kb, ?_⟩
      simp only [Act.put, List.setIfInBounds_toArray, List.set_cons_succ, List.set_cons_zero, Nat.reduceAdd]
      refine far.farO_stretch pG 8 0 2 e1' e2' e3' (by kernel_rfl) (by kernel_rfl) (fun κ w' hk1 hk2 hC => hC) ?_
      simp only [List.take_succ_cons, List.take_zero, List.drop_succ_cons, List.drop_zero, Nat.reduceAdd]
      repeat (go_big_quiet_step (fail))
      refine wpQuiet_nil ?_
      refine far.farO_enter e1' e2' 2 rfl rfl 22 #[.pointer (some ⟨p, 0, none⟩)] (by kernel_rfl) (by kernel_rfl) ?_
      refine (left_any (H8.out.sp.chg Kb id) d1 d2 f5).mono ?_
      rintro e wc ⟨rfl, kc⟩
      have Kc := Kb.then kc
      refine ⟨_, rfl, (HpG.out _).2 Kc, ?_⟩
      simp only [Act.put, List.setIfInBounds_toArray, List.set_cons_succ, List.set_cons_zero, Nat.reduceAdd]
      refine far.farO_stretch pG 14 0 3 e1' e2' e3' (by kernel_rfl) (by kernel_rfl) (fun κ w' hk1 hk2 hC => hC) ?_
      simp only [List.take_succ_cons, List.take_zero, List.drop_succ_cons, List.drop_zero, Nat.reduceAdd]
      repeat (go_big_quiet_step (fail))
      refine wpQuiet_nil ?_
      refine far.farO_enter e1' e2' 3 rfl rfl 15 #[nv g D] (by kernel_rfl) (by kernel_rfl) ?_
      refine (bytes_any _ g D).mono ?_
      rintro e wd ⟨b, rfl, _, hb2, kd⟩
      have Kd := Kc.then kd
      refine ⟨_, rfl, (HpG.out _).2 Kd, ?_⟩
      simp only [Act.put, List.setIfInBounds_toArray, List.set_cons_succ, List.set_cons_zero, Nat.reduceAdd]
      refine far.farO_stretch pG 4 0 4 e1' e2' e3' (by kernel_rfl) (by kernel_rfl) (fun κ w' hk1 hk2 hC => hC) ?_
      simp only [List.take_succ_cons, List.take_zero, List.drop_succ_cons, List.drop_zero, Nat.reduceAdd]
      repeat (go_big_quiet_step (fail))
      refine wpQuiet_nil ?_
      refine far.farO_enter e1' e2' 4 rfl rfl 16 #[nv g D] (by kernel_rfl) (by kernel_rfl) ?_
      refine (rbytes_any _ g D).mono ?_
      rintro e we ⟨x, cap, J, rfl, hL, ke⟩
      have Ke := Kd.then ke
      have q1 := block_lies (ke.heap hb2 id)
      rw [nbs_length] at q1
      have BY := bytes_same q1 hL
      refine ⟨_, rfl, (HpG.out _).2 Ke, ?_⟩
      simp only [Act.put, List.setIfInBounds_toArray, List.set_cons_succ, List.set_cons_zero, Nat.reduceAdd]
      refine far.farO_enter e1' e2' 5 rfl rfl 14 #[.slice (some ⟨b, 0, none⟩) 12 12, .slice x 12 cap] (by kernel_rfl) (by kernel_rfl) ?_
      refine (BY).mono ?_
      rintro e wf ⟨rfl, rfl⟩
      refine ⟨_, rfl, (HpG.out _).2 Ke, ?_⟩
      simp only [Act.put, List.setIfInBounds_toArray, List.set_cons_succ, List.set_cons_zero, Nat.reduceAdd]
      refine far.farO_stretch pG 2 0 6 e1' e2' e3' (by kernel_rfl) (by kernel_rfl) (fun κ w' hk1 hk2 hC => hC) ?_
      simp only [List.take_succ_cons, List.take_zero, List.drop_succ_cons, List.drop_zero, Nat.reduceAdd]
      repeat (go_big_quiet_step (fail))
      refine wpQuiet_nil ?_
      refine far.farO_nil ?_
      have h9 := H8.out.same Ke
      clear xA0 xA1 xB0 xB1 xp0 xp1 xq0 xq1 iG HpG H8 K0 Ka Kb Kc Kd Ke ka kb kc kd ke BY q1 hL hb2
      go_wp2
      go_roundw
      case rel => exact ⟨j + 1, D, by omega, by go_num, d1, d2, h9⟩
      case measure => simp [intOf]; omega
    · obtain rfl : j = n := by omega
      have hji : (j : Int) ≤ (j : Int) := by omega
      go_wp2_with fail
      refine (first_any _).mono ?_
      rintro e w8 ⟨rfl, k8⟩
      go_wp2
      go_ret
      exact ⟨rfl, (hB.chg.then k8).below⟩

theorem walk (w : World) (a0 a1 a2 a3 : Int) (w0 : (Lit.int .i64 a0).wf = true) (w1 : (Lit.int .i64 a1).wf = true) (w2 : (Lit.int .i64 a2).wf = true) (w3 : (Lit.int .i64 a3).wf = true) :
    Calls Try.prog 4 #[.int .i64 a0, .int .i64 a1, .int .i64 a2, .int .i64 a3] w fun e w' => e = .returned (.bool true) ∧ Below w.heap.size w w' := by
  by_cases hh : a3 < 0 ∨ 300 < a3
  · exact early w a0 a1 a2 a3 hh
  · cases hf : fits a0 a1 a2 with
    | false => exact nofit w a0 a1 a2 a3 (by omega) (by omega) hf
    | true =>
      have := of_decide_eq_true hf
      obtain ⟨n, rfl⟩ := Int.eq_ofNat_of_zero_le (show 0 ≤ a3 by omega)
      exact late w a0 a1 a2 n (by omega) (by omega) (by omega) (by omega) (by omega) (by omega)

theorem own : ownKnob Try.prog.godebug = none := by kernel_rfl
theorem laidOut : laidOutB Try.prog = true := by kernel_rfl

set_option maxRecDepth 100000 in
theorem lifted (os : Os) (started : os.Started) (H : Type) (enc : TypeId × Value → H) :
    ReturnsInHanded {} Try.checked os 4 .any (Rows.nonceNextSpec.pre6 enc Try.prog Try.f4 Rows.nonceNextRow.domain false) (Rows.nonceNextSpec.post enc Try.prog Try.f4 false true false false) := by
  refine returnsInHanded_of_change (C := Try.checked) own started (by kernel_rfl) Try.func4
    (ChangeSpec.witness6 (enc := enc) (C := Try.checked) false ⟨#[], #[.int .i64 0, .int .i64 0, .int .i64 0, .int .i64 0], []⟩ 8 (by kernel_rfl) (by kernel_rfl) (by kernel_rfl) (by kernel_rfl)) ?_
  intro W base args ds gs before hval0 hW hcnd _
  have hval : ∀ (j : Nat) t v, Try.f4.params[j]? = some t → args[j]? = some v → Value.okWide Try.prog W .any base t v := hval0
  have hW' := hW
  obtain ⟨p, q, hA0, hV, rfl, hfz, hnd⟩ := hW
  have hA : DataW.TrodAll enc Try.prog W 0 (fun _ => true) true Try.f4.params.toList args.toList ds p := hA0
  rw [Try.params4] at hA hval
  obtain ⟨v0, vs0, d0, ds0, p0, q0, hargs, rfl, rfl, h0, r0⟩ := trodAll_cons hA
  obtain ⟨v1, vs1, d1, ds1, p1, q1, rfl, rfl, rfl, h1, r1⟩ := trodAll_cons r0
  obtain ⟨v2, vs2, d2, ds2, p2, q2, rfl, rfl, rfl, h2, r2⟩ := trodAll_cons r1
  obtain ⟨v3, vs3, d3, ds3, p3, q3, rfl, rfl, rfl, h3, r3⟩ := trodAll_cons r2
  obtain ⟨rfl, rfl, rfl⟩ := trodAll_nil r3
  obtain rfl : args = #[v0, v1, v2, v3] := by cases args; simp_all
  obtain ⟨rfl, rfl⟩ := trodVars_none hV
  obtain ⟨a0, rfl, rfl, rfl, w0⟩ := open_int Try.underlying3 (hval 0 3 v0 rfl rfl) h0
  obtain ⟨a1, rfl, rfl, rfl, w1⟩ := open_int Try.underlying3 (hval 1 3 v1 rfl rfl) h1
  obtain ⟨a2, rfl, rfl, rfl, w2⟩ := open_int Try.underlying3 (hval 2 3 v2 rfl rfl) h2
  obtain ⟨a3, rfl, rfl, rfl, w3⟩ := open_int Try.underlying3 (hval 3 3 v3 rfl rfl) h3
  clear hA0 hval0
  refine (walk W a0 a1 a2 a3 w0 w1 w2 w3).mono fun e W' ⟨he, bel⟩ => ?_
  subst he
  exact ⟨_, rfl, _, _, _, [], _, [], hW', trodAll_mk1 (shut_bool Try.underlying4 _), (trodAll_cons_mk (shut_int Try.underlying3 w0) (trodAll_cons_mk (shut_int Try.underlying3 w1) (trodAll_cons_mk (shut_int Try.underlying3 w2) (trodAll_cons_mk (shut_int Try.underlying3 w3) trodAll_mk0)))), rfl, bel.frame _, fun h => by cases h⟩

theorem over : Rows.nonceNextRow.holds Try.pinned (OpenSpec.ofChange Rows.nonceNextSpec) :=
  OpenClaim.holds_of_wide 4 Try.f4 rfl rfl rfl rfl rfl rfl rfl ⟨rfl, rfl, rfl, rfl, rfl⟩ rfl rfl rfl rfl rfl (by kernel_rfl) Try.func4 (by kernel_rfl)
    (of_decide_eq_true (by kernel_rfl)) (by unfold Func.isWrapper; first | (rw [if_pos (by decide +kernel)]; kernel_rfl) | (rw [if_neg (by decide +kernel)]; exact ⟨rfl, rfl⟩))
    (fun os started H enc _ => lifted os started H enc)

theorem proved : Rows.NonceNextSaid := over
end Go.Proofs.Ythmpkalalceapaa.nonceNext
namespace Go.Proofs.Ythmpkalalceapaa
theorem nonceNext_holds : Rows.NonceNextSaid := nonceNext.proved
#print axioms nonceNext_holds
end Go.Proofs.Ythmpkalalceapaa
