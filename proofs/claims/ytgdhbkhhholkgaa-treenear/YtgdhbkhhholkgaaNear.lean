/-
  Proved: for every height and any three numbers the law TreeNear returns true; no condition.
-/
import Derived.Test.YtgdhbkhhholkgaaRun
import Derived.Below
namespace Go.Proofs.Ytgdhbkhhholkgaa.treeNear
open Go.ChangeShapes Go.WideShapes Go.ChangeAt Go.RowKit Go.Proofs.Ytgdhbkhhholkgaa.hp Go.Proofs.Ytgdhbkhhholkgaa.tm Go.Proofs.Ytgdhbkhhholkgaa.st
set_option linter.unusedVariables false

set_option maxRecDepth 100000 in
set_option maxHeartbeats 2000000 in
theorem early (w : World) (h a b c : Int) (hh : okH h = false ∨ a < 0 ∨ b < 0 ∨ c < 0 ∨ lvs h ≤ a ∨ lvs h ≤ b ∨ lvs h ≤ c) :
    Calls Try.prog 6 #[.int .i64 h, .int .i64 a, .int .i64 b, .int .i64 c] w fun e w' => e = .returned (.bool true) ∧ Below w.heap.size w w' := by
  have HL : Hid (∀ w, Calls Try.prog 13 #[.int .i64 h] w fun e w' => e = .returned (.int .i64 (lvs h)) ∧ w' = w) := fun w => leaves_any w h
  have HM : Hid (∀ w, Calls Try.prog 10 #[.int .i64 h] w fun e w' => e = .returned (.bool (okH h)) ∧ w' = w) := fun w => may_any w h
  obtain ⟨n, hn⟩ : ∃ n, lvs h = n := ⟨_, rfl⟩
  obtain ⟨m, hm⟩ : ∃ m, okH h = m := ⟨_, rfl⟩
  rw [hn] at HL hh
  rw [hm] at HM hh
  clear hn hm
  have hc : m = false ∨ (m = true ∧ a < 0) ∨ (m = true ∧ 0 ≤ a ∧ b < 0) ∨ (m = true ∧ 0 ≤ a ∧ 0 ≤ b ∧ c < 0) ∨ (m = true ∧ 0 ≤ a ∧ 0 ≤ b ∧ 0 ≤ c ∧ n ≤ a) ∨ (m = true ∧ 0 ≤ a ∧ 0 ≤ b ∧ 0 ≤ c ∧ a < n ∧ n ≤ b) ∨ (m = true ∧ 0 ≤ a ∧ 0 ≤ b ∧ 0 ≤ c ∧ a < n ∧ b < n ∧ n ≤ c) := by
    cases m
    · exact .inl rfl
    · simp only [true_and, Bool.true_eq_false, false_or] at hh ⊢
      omega
  clear hh
  rcases hc with rfl | ⟨rfl, h1⟩ | ⟨rfl, h1, h2⟩ | ⟨rfl, h1, h2, h3⟩ | ⟨rfl, h1, h2, h3, h4⟩ | ⟨rfl, h1, h2, h3, h4, h5⟩ | ⟨rfl, h1, h2, h3, h4, h5, h6⟩
  all_goals
    go_enter Try.func6, Try.ntmps6
    go_wp2_with fail
    refine (first_any _).mono ?_
    rintro e w1 ⟨rfl, k1⟩
    go_wp2_with fail
    refine (HL.out _).mono ?_
    rintro e w2 ⟨rfl, rfl⟩
    go_wp2_with fail
    refine (HM.out _).mono ?_
    rintro e w3 ⟨rfl, rfl⟩
    go_wp2_with fail
    refine (first_any _).mono ?_
    rintro e w4 ⟨rfl, k4⟩
    go_wp2
    go_ret
    exact ⟨rfl, (k1.then k4).below⟩

set_option maxRecDepth 100000 in
set_option maxHeartbeats 4000000 in
theorem late (w : World) (h a b c : Nat) (h1 : h ≤ 6) (ha : a < 2 ^ h) (hb : b < 2 ^ h) (hc : c < 2 ^ h) :
    Calls Try.prog 6 #[.int .i64 h, .int .i64 a, .int .i64 b, .int .i64 c] w fun e w' => e = .returned (.bool true) ∧ Below w.heap.size w w' := by
  have HL : Hid (∀ w, Calls Try.prog 13 #[.int .i64 h] w fun e w' => e = .returned (.int .i64 (lvs h)) ∧ w' = w) := fun w => leaves_any w h
  have HM : Hid (∀ w, Calls Try.prog 10 #[.int .i64 h] w fun e w' => e = .returned (.bool (okH h)) ∧ w' = w) := fun w => may_any w h
  rw [lvs_of h1] at HL
  rw [(okH_iff h).2 ⟨by omega, by omega⟩] at HM
  have HX : Hid (∀ w, Calls Try.prog 21 #[.int .i64 h, .int .i64 a, .int .i64 b] w fun e w' => e = .returned (.int .i64 (shr h a b)) ∧ w' = w) := fun w => shared_some w h a b h1 ha hb
  have HY : Hid (∀ w, Calls Try.prog 21 #[.int .i64 h, .int .i64 b, .int .i64 c] w fun e w' => e = .returned (.int .i64 (shr h b c)) ∧ w' = w) := fun w => shared_some w h b c h1 hb hc
  have HZ : Hid (∀ w, Calls Try.prog 21 #[.int .i64 h, .int .i64 a, .int .i64 c] w fun e w' => e = .returned (.int .i64 (shr h a c)) ∧ w' = w) := fun w => shared_some w h a c h1 ha hc
  have HW : Hid (∀ w, Calls Try.prog 21 #[.int .i64 h, .int .i64 b, .int .i64 a] w fun e w' => e = .returned (.int .i64 (shr h a b)) ∧ w' = w) := by
    intro w
    rw [shr_comm]
    exact shared_some w h b a h1 hb ha
  have e1 := shr_near h1 ha hb hc
  have e2 := shr_near h1 ha hc hb
  have e3 := shr_near h1 hb ha hc
  rw [shr_comm h c b] at e2
  rw [shr_comm h b a] at e3
  have bx := shr_bounds h1 ha hb
  obtain ⟨N, hN⟩ : ∃ N : Int, ((2 ^ h : Nat) : Int) = N := ⟨_, rfl⟩
  have n1 : (a : Int) < N := by omega
  have n2 : (b : Int) < N := by omega
  have n3 : (c : Int) < N := by omega
  rw [hN] at HL
  obtain ⟨X, hX⟩ : ∃ X : Int, shr h a b = X := ⟨_, rfl⟩
  obtain ⟨Y, hY⟩ : ∃ Y : Int, shr h b c = Y := ⟨_, rfl⟩
  obtain ⟨Z, hZ⟩ : ∃ Z : Int, shr h a c = Z := ⟨_, rfl⟩
  rw [hX] at HX HW e1 e2 e3 bx
  rw [hY] at HY e1 e2 e3
  rw [hZ] at HZ e1 e2 e3
  obtain ⟨bx1, bx2⟩ := bx
  obtain ⟨M1, g1⟩ : ∃ M, (if Y < X then Y else X) = M := ⟨_, rfl⟩
  obtain ⟨M2, g2⟩ : ∃ M, (if Z < Y then Z else Y) = M := ⟨_, rfl⟩
  obtain ⟨M3, g3⟩ : ∃ M, (if Z < X then Z else X) = M := ⟨_, rfl⟩
  have m1 : M1 ≤ Z := by rw [← g1]; split <;> omega
  have m2 : M2 ≤ X := by rw [← g2]; split <;> omega
  have m3 : M3 ≤ Y := by rw [← g3]; split <;> omega
  have HG : Hid ((if Y < X then Y else X) = M1 ∧ (if Z < Y then Z else Y) = M2 ∧ (if Z < X then Z else X) = M3) := ⟨g1, g2, g3⟩
  clear g1 g2 g3 e1 e2 e3
  clear hX hY hZ hN ha hb hc
  go_enter Try.func6, Try.ntmps6
  go_wp2_with fail
  refine (first_any _).mono ?_
  rintro e w1 ⟨rfl, k1⟩
  go_wp2_with fail
  refine (HL.out _).mono ?_
  rintro e w2 ⟨rfl, rfl⟩
  go_wp2_with fail
  refine (HM.out _).mono ?_
  rintro e w3 ⟨rfl, rfl⟩
  go_wp2_with fail
  refine (HX.out _).mono ?_
  rintro e w3 ⟨rfl, rfl⟩
  go_wp2_with fail
  refine (HY.out _).mono ?_
  rintro e w3 ⟨rfl, rfl⟩
  go_wp2_with fail
  refine (HZ.out _).mono ?_
  rintro e w3 ⟨rfl, rfl⟩
  go_wp2_with fail
  refine (first_any _).mono ?_
  rintro e w4 ⟨rfl, k4⟩
  have K4 := (k1.then k4).below
  clear k1 k4 HX HY HZ HL HM
  obtain ⟨g1, g2, g3⟩ := HG.out
  clear HG
  go_wp2_with fail
  refine (HW.out _).mono ?_
  rintro e w5 ⟨rfl, rfl⟩
  go_wp2
  go_ret
  exact ⟨rfl, K4⟩

theorem walk (w : World) (a0 a1 a2 a3 : Int) (w0 : (Lit.int .i64 a0).wf = true) (w1 : (Lit.int .i64 a1).wf = true) (w2 : (Lit.int .i64 a2).wf = true) (w3 : (Lit.int .i64 a3).wf = true) :
    Calls Try.prog 6 #[.int .i64 a0, .int .i64 a1, .int .i64 a2, .int .i64 a3] w fun e w' => e = .returned (.bool true) ∧ Below w.heap.size w w' := by
  by_cases hh : okH a0 = false ∨ a1 < 0 ∨ a2 < 0 ∨ a3 < 0 ∨ lvs a0 ≤ a1 ∨ lvs a0 ≤ a2 ∨ lvs a0 ≤ a3
  · exact early w a0 a1 a2 a3 hh
  · have hk : okH a0 = true := by
      cases hk : okH a0
      · exact (hh (.inl hk)).elim
      · rfl
    have h0 := (okH_iff a0).1 hk
    obtain ⟨H, rfl⟩ : ∃ H : Nat, a0 = H := ⟨a0.toNat, by omega⟩
    rw [lvs_of (by omega)] at hh
    obtain ⟨A, rfl⟩ : ∃ A : Nat, a1 = A := ⟨a1.toNat, by omega⟩
    obtain ⟨B, rfl⟩ : ∃ B : Nat, a2 = B := ⟨a2.toNat, by omega⟩
    obtain ⟨C, rfl⟩ : ∃ C : Nat, a3 = C := ⟨a3.toNat, by omega⟩
    exact late w H A B C (by omega) (by omega) (by omega) (by omega)

theorem own : ownKnob Try.prog.godebug = none := by kernel_rfl
theorem laidOut : laidOutB Try.prog = true := by kernel_rfl

set_option maxRecDepth 100000 in
theorem lifted (os : Os) (started : os.Started) (H : Type) (enc : TypeId × Value → H) :
    ReturnsInHanded {} Try.checked os 6 .any (Rows.treeNearSpec.pre6 enc Try.prog Try.f6 Rows.treeNearRow.domain false) (Rows.treeNearSpec.post enc Try.prog Try.f6 false true false false) := by
  refine returnsInHanded_of_change (C := Try.checked) own started (by kernel_rfl) Try.func6
    (ChangeSpec.witness6 (enc := enc) (C := Try.checked) false ⟨#[], #[.int .i64 0, .int .i64 0, .int .i64 0, .int .i64 0], []⟩ 8 (by kernel_rfl) (by kernel_rfl) (by kernel_rfl) (by kernel_rfl)) ?_
  intro W base args ds gs before hval0 hW hcnd _
  have hval : ∀ (j : Nat) t v, Try.f6.params[j]? = some t → args[j]? = some v → Value.okWide Try.prog W .any base t v := hval0
  have hW' := hW
  obtain ⟨p, q, hA0, hV, rfl, hfz, hnd⟩ := hW
  have hA : DataW.TrodAll enc Try.prog W 0 (fun _ => true) true Try.f6.params.toList args.toList ds p := hA0
  rw [Try.params6] at hA hval
  obtain ⟨v0, vs0, d0, ds0, p0, q0, hargs, rfl, rfl, h0, r0⟩ := trodAll_cons hA
  obtain ⟨v1, vs1, d1, ds1, p1, q1, rfl, rfl, rfl, h1, r1⟩ := trodAll_cons r0
  obtain ⟨v2, vs2, d2, ds2, p2, q2, rfl, rfl, rfl, h2, r2⟩ := trodAll_cons r1
  obtain ⟨v3, vs3, d3, ds3, p3, q3, rfl, rfl, rfl, h3, r3⟩ := trodAll_cons r2
  obtain ⟨rfl, rfl, rfl⟩ := trodAll_nil r3
  obtain rfl : args = #[v0, v1, v2, v3] := by cases args; simp_all
  obtain ⟨rfl, rfl⟩ := trodVars_none hV
  obtain ⟨a0, rfl, rfl, rfl, w0⟩ := open_int Try.underlying3 (hval 0 3 v0 rfl rfl) h0
  obtain ⟨a1, rfl, rfl, rfl, w1⟩ := open_int Try.underlying3 (hval 1 3 v1 rfl rfl) h1
  obtain ⟨a2, rfl, rfl, rfl, w2⟩ := open_int Try.underlying3 (hval 2 3 v2 rfl rfl) h2
  obtain ⟨a3, rfl, rfl, rfl, w3⟩ := open_int Try.underlying3 (hval 3 3 v3 rfl rfl) h3
  clear hA0 hval0
  refine (walk W a0 a1 a2 a3 w0 w1 w2 w3).mono fun e W' ⟨he, bel⟩ => ?_
  subst he
  exact ⟨_, rfl, _, _, _, [], _, [], hW', trodAll_mk1 (shut_bool Try.underlying4 _), (trodAll_cons_mk (shut_int Try.underlying3 w0) (trodAll_cons_mk (shut_int Try.underlying3 w1) (trodAll_cons_mk (shut_int Try.underlying3 w2) (trodAll_cons_mk (shut_int Try.underlying3 w3) trodAll_mk0)))), rfl, bel.frame _, fun h => by cases h⟩

theorem over : Rows.treeNearRow.holds Try.pinned (OpenSpec.ofChange Rows.treeNearSpec) :=
  OpenClaim.holds_of_wide 6 Try.f6 rfl rfl rfl rfl rfl rfl rfl ⟨rfl, rfl, rfl, rfl, rfl⟩ rfl rfl rfl rfl rfl (by kernel_rfl) Try.func6 (by kernel_rfl)
    (of_decide_eq_true (by kernel_rfl)) (by unfold Func.isWrapper; first | (rw [if_pos (by decide +kernel)]; kernel_rfl) | (rw [if_neg (by decide +kernel)]; exact ⟨rfl, rfl⟩))
    (fun os started H enc _ => lifted os started H enc)

theorem proved : Rows.TreeNearSaid := over
end Go.Proofs.Ytgdhbkhhholkgaa.treeNear
namespace Go.Proofs.Ytgdhbkhhholkgaa
theorem treeNear_holds : Rows.TreeNearSaid := treeNear.proved
#print axioms treeNear_holds
end Go.Proofs.Ytgdhbkhhholkgaa
