/-
  Proved: for every height, any two leaves and any bucket the law TreeTells returns true; no condition.
-/
import Derived.Test.YtgdhbkhhholkgaaRun
import Derived.Below
namespace Go.Proofs.Ytgdhbkhhholkgaa.treeTells
open Go.ChangeShapes Go.WideShapes Go.ChangeAt Go.RowKit Go.Proofs.Ytgdhbkhhholkgaa.hp Go.Proofs.Ytgdhbkhhholkgaa.tm Go.Proofs.Ytgdhbkhhholkgaa.st
set_option linter.unusedVariables false

set_option maxRecDepth 100000 in
set_option maxHeartbeats 4000000 in
theorem walk (w : World) (h a b c : Int) (w0 : (Lit.int .i64 h).wf = true) (w1 : (Lit.int .i64 a).wf = true) (w2 : (Lit.int .i64 b).wf = true) (w3 : (Lit.int .i64 c).wf = true) :
    Calls Try.prog 3 #[.int .i64 h, .int .i64 a, .int .i64 b, .int .i64 c] w fun e w' => e = .returned (.bool true) ∧ Below w.heap.size w w' := by
  have hc := (bounds_i64 w3).2
  have H9 : Hid (∀ w, Calls Try.prog 9 #[.int .i64 h] w fun e w' => e = .returned (.bool (okH h)) ∧ w' = w) := fun w => rmay_any w h
  have H10 : Hid (∀ w, Calls Try.prog 10 #[.int .i64 h] w fun e w' => e = .returned (.bool (okH h)) ∧ w' = w) := fun w => may_any w h
  have H11 : Hid (∀ w, Calls Try.prog 11 #[.int .i64 h] w fun e w' => e = .returned (.int .i64 (bks h)) ∧ w' = w) := fun w => buckets_any w h
  have H12 : Hid (∀ w, Calls Try.prog 12 #[.int .i64 h] w fun e w' => e = .returned (.int .i64 (bks h)) ∧ w' = w) := fun w => rbuckets_any w h
  have H13 : Hid (∀ w, Calls Try.prog 13 #[.int .i64 h] w fun e w' => e = .returned (.int .i64 (lvs h)) ∧ w' = w) := fun w => leaves_any w h
  have H15 : Hid (∀ w, Calls Try.prog 15 #[.int .i64 h, .int .i64 a] w fun e w' => ∃ v, e = .returned v ∧ New w (pathI h a) v w') := fun w => path_any w h a
  have H16 : Hid (∀ w, Calls Try.prog 16 #[.int .i64 h, .int .i64 a] w fun e w' => ∃ v, e = .returned v ∧ New w (pathI h a) v w') := fun w => rpath_any w h a
  have H17 : Hid (∀ w, Calls Try.prog 17 #[.int .i64 c] w fun e w' => e = .returned (.int .i64 (lvlI c)) ∧ w' = w) := fun w => level_any w c hc
  have H18 : Hid (∀ w, Calls Try.prog 18 #[.int .i64 c] w fun e w' => e = .returned (.int .i64 (lvlI c)) ∧ w' = w) := fun w => rlevel_any w c hc
  have H19 : Hid (∀ w, Calls Try.prog 19 #[.int .i64 h, .int .i64 c, .int .i64 a] w fun e w' => e = .returned (.bool (onI h c a)) ∧ ∃ n, w' = w.drewN n) := fun w => on_any w h c a
  have H20 : Hid (∀ w, Calls Try.prog 20 #[.int .i64 h, .int .i64 c, .int .i64 a] w fun e w' => e = .returned (.bool (onI h c a)) ∧ Chg no w w') := fun w => ron_any w h c a
  have H21 : Hid (∀ w, Calls Try.prog 21 #[.int .i64 h, .int .i64 a, .int .i64 b] w fun e w' => e = .returned (.int .i64 (shI h a b)) ∧ w' = w) := fun w => shared_any w h a b
  have H22 : Hid (∀ w, Calls Try.prog 22 #[.int .i64 h, .int .i64 a, .int .i64 b] w fun e w' => e = .returned (.int .i64 (shI h a b)) ∧ Chg no w w') := fun w => rshared_any w h a b
  have hlT := pathI_length h a
  have HLV : Hid ((okH h = false → lvs h = 0) ∧ (okH h = true → ∃ H : Nat, h = H ∧ H ≤ 6 ∧ lvs h = 2 ^ H)) := by
    refine ⟨fun e => by unfold lvs; rw [e]; rfl, fun e => ?_⟩
    have := (okH_iff h).1 e
    refine ⟨h.toNat, by omega, by omega, ?_⟩
    unfold lvs
    rw [if_pos e]
  obtain ⟨m, hm⟩ : ∃ m, okH h = m := ⟨_, rfl⟩
  obtain ⟨X, hX⟩ : ∃ X, bks h = X := ⟨_, rfl⟩
  obtain ⟨N, hN⟩ : ∃ N, lvs h = N := ⟨_, rfl⟩
  obtain ⟨P, hP⟩ : ∃ P, pathI h a = P := ⟨_, rfl⟩
  obtain ⟨V, hV⟩ : ∃ V, lvlI c = V := ⟨_, rfl⟩
  obtain ⟨r, hr⟩ : ∃ r, onI h c a = r := ⟨_, rfl⟩
  obtain ⟨Z, hZ⟩ : ∃ Z, shI h a b = Z := ⟨_, rfl⟩
  rw [hm] at H9 H10 HLV
  rw [hX] at H11 H12
  rw [hN] at H13 HLV
  simp only [hP] at H15 H16 hlT
  rw [hV] at H17 H18
  rw [hr] at H19 H20
  rw [hZ] at H21 H22
  clear hm hX hN hP hV hr hZ w0 w1 w2 w3 hc
  cases m
  · have hN0 := HLV.out.1 rfl
    subst hN0
    clear HLV
    go_enter Try.func3, Try.ntmps3
    go_wp2_with fail
    refine (first_any _).mono ?_
    rintro e w1 ⟨rfl, k1⟩
    go_wp2_with fail
    refine (H9.out _).mono ?_
    rintro e w2 ⟨rfl, rfl⟩
    go_wp2_with fail
    refine (first_any _).mono ?_
    rintro e w3 ⟨rfl, k3⟩
    have K3 := k1.then k3
    clear k1 k3
    go_wp2_with fail
    refine (H10.out _).mono ?_
    rintro e w4 ⟨rfl, rfl⟩
    go_wp2_with fail
    refine (H9.out _).mono ?_
    rintro e w4 ⟨rfl, rfl⟩
    go_wp2_with fail
    refine (H11.out _).mono ?_
    rintro e w4 ⟨rfl, rfl⟩
    go_wp2_with fail
    refine (H12.out _).mono ?_
    rintro e w4 ⟨rfl, rfl⟩
    go_wp2_with fail
    refine (H13.out _).mono ?_
    rintro e w4 ⟨rfl, rfl⟩
    go_wp2_with fail
    refine (H15.out _).mono ?_
    rintro e w5 ⟨v5, rfl, N5⟩
    obtain ⟨x5, c5, rfl⟩ := N5.shape
    go_wp2_with fail
    refine (H16.out _).mono ?_
    rintro e w6 ⟨v6, rfl, N6⟩
    obtain ⟨x6, c6, rfl⟩ := N6.shape
    have HI := ints_same w6 _ _ P (N5.lies.chg N6.2 (fun _ _ h => h)) N6.lies (by omega)
    have K6 := (K3.then N5.2).then N6.2
    clear N5 N6 K3
    go_wp2_with fail
    refine HI.mono ?_
    rintro e w7 ⟨rfl, n7, rfl⟩
    have K7 := K6.drewN n7
    obtain ⟨w7, hw7⟩ : ∃ w7, w6.drewN n7 = w7 := ⟨_, rfl⟩
    rw [hw7] at K7 ⊢
    clear HI K6 hw7
    go_wp2_with fail
    refine (H17.out _).mono ?_
    rintro e w8 ⟨rfl, rfl⟩
    go_wp2_with fail
    refine (H18.out _).mono ?_
    rintro e w8 ⟨rfl, rfl⟩
    go_wp2_with fail
    refine (H19.out _).mono ?_
    rintro e w8 ⟨rfl, n8, rfl⟩
    go_wp2_with fail
    refine (H20.out _).mono ?_
    rintro e w9 ⟨rfl, k9⟩
    have K9 := (K7.drewN n8).then k9
    clear K7 k9
    go_wp2_with fail
    refine (H21.out _).mono ?_
    rintro e w10 ⟨rfl, rfl⟩
    go_wp2_with fail
    refine (H22.out _).mono ?_
    rintro e w11 ⟨rfl, k11⟩
    go_wp2
    go_ret
    exact ⟨rfl, (K9.then k11).below⟩
  · obtain ⟨H, rfl, hH, hN2⟩ := HLV.out.2 rfl
    have hp := pow_le6 H hH
    have hN3 : ((2 ^ H : Nat) : Int) = N := by rw [hN2]; exact pow_cast _
    have p1 : 1 ≤ N := by omega
    have p2 : N ≤ 64 := by omega
    have hw : wrap64 N = N := by unfold wrap64; omega
    have hP : (2 : Int) ^ H = N := hN2.symm
    have i1 : (H : Int) ≤ 6 := by omega
    clear HLV hN2 hN3 hp hH
    go_enter Try.func3, Try.ntmps3
    go_wp2_with fail
    refine (first_any _).mono ?_
    rintro e w1 ⟨rfl, k1⟩
    go_wp2_with fail
    refine (H9.out _).mono ?_
    rintro e w2 ⟨rfl, rfl⟩
    go_wp2_with fail
    refine (first_any _).mono ?_
    rintro e w3 ⟨rfl, k3⟩
    have K3 := k1.then k3
    clear k1 k3
    go_wp2_with fail
    refine (H10.out _).mono ?_
    rintro e w4 ⟨rfl, rfl⟩
    go_wp2_with fail
    refine (H9.out _).mono ?_
    rintro e w4 ⟨rfl, rfl⟩
    go_wp2_with fail
    refine (H11.out _).mono ?_
    rintro e w4 ⟨rfl, rfl⟩
    go_wp2_with fail
    refine (H12.out _).mono ?_
    rintro e w4 ⟨rfl, rfl⟩
    go_wp2_with fail
    refine (H13.out _).mono ?_
    rintro e w4 ⟨rfl, rfl⟩
    go_wp2_with fail
    refine (H15.out _).mono ?_
    rintro e w5 ⟨v5, rfl, N5⟩
    obtain ⟨x5, c5, rfl⟩ := N5.shape
    go_wp2_with fail
    refine (H16.out _).mono ?_
    rintro e w6 ⟨v6, rfl, N6⟩
    obtain ⟨x6, c6, rfl⟩ := N6.shape
    have HI := ints_same w6 _ _ P (N5.lies.chg N6.2 (fun _ _ h => h)) N6.lies (by omega)
    have K6 := (K3.then N5.2).then N6.2
    clear N5 N6 K3
    go_wp2_with fail
    refine HI.mono ?_
    rintro e w7 ⟨rfl, n7, rfl⟩
    have K7 := K6.drewN n7
    obtain ⟨w7, hw7⟩ : ∃ w7, w6.drewN n7 = w7 := ⟨_, rfl⟩
    rw [hw7] at K7 ⊢
    clear HI K6 hw7
    go_wp2_with fail
    refine (H17.out _).mono ?_
    rintro e w8 ⟨rfl, rfl⟩
    go_wp2_with fail
    refine (H18.out _).mono ?_
    rintro e w8 ⟨rfl, rfl⟩
    go_wp2_with fail
    refine (H19.out _).mono ?_
    rintro e w8 ⟨rfl, n8, rfl⟩
    go_wp2_with fail
    refine (H20.out _).mono ?_
    rintro e w9 ⟨rfl, k9⟩
    have K9 := (K7.drewN n8).then k9
    clear K7 k9
    go_wp2_with fail
    refine (H21.out _).mono ?_
    rintro e w10 ⟨rfl, rfl⟩
    go_wp2_with fail
    refine (H22.out _).mono ?_
    rintro e w11 ⟨rfl, k11⟩
    go_wp2
    go_ret
    exact ⟨rfl, (K9.then k11).below⟩

theorem own : ownKnob Try.prog.godebug = none := by kernel_rfl
theorem laidOut : laidOutB Try.prog = true := by kernel_rfl

set_option maxRecDepth 100000 in
theorem lifted (os : Os) (started : os.Started) (H : Type) (enc : TypeId × Value → H) :
    ReturnsInHanded {} Try.checked os 3 .any (Rows.treeTellsSpec.pre6 enc Try.prog Try.f3 Rows.treeTellsRow.domain false) (Rows.treeTellsSpec.post enc Try.prog Try.f3 false true false false) := by
  refine returnsInHanded_of_change (C := Try.checked) own started (by kernel_rfl) Try.func3
    (ChangeSpec.witness6 (enc := enc) (C := Try.checked) false ⟨#[], #[.int .i64 0, .int .i64 0, .int .i64 0, .int .i64 0], []⟩ 8 (by kernel_rfl) (by kernel_rfl) (by kernel_rfl) (by kernel_rfl)) ?_
  intro W base args ds gs before hval0 hW hcnd _
  have hval : ∀ (j : Nat) t v, Try.f3.params[j]? = some t → args[j]? = some v → Value.okWide Try.prog W .any base t v := hval0
  have hW' := hW
  obtain ⟨p, q, hA0, hV, rfl, hfz, hnd⟩ := hW
  have hA : DataW.TrodAll enc Try.prog W 0 (fun _ => true) true Try.f3.params.toList args.toList ds p := hA0
  rw [Try.params3] at hA hval
  obtain ⟨v0, vs0, d0, ds0, p0, q0, hargs, rfl, rfl, h0, r0⟩ := trodAll_cons hA
  obtain ⟨v1, vs1, d1, ds1, p1, q1, rfl, rfl, rfl, h1, r1⟩ := trodAll_cons r0
  obtain ⟨v2, vs2, d2, ds2, p2, q2, rfl, rfl, rfl, h2, r2⟩ := trodAll_cons r1
  obtain ⟨v3, vs3, d3, ds3, p3, q3, rfl, rfl, rfl, h3, r3⟩ := trodAll_cons r2
  obtain ⟨rfl, rfl, rfl⟩ := trodAll_nil r3
  obtain rfl : args = #[v0, v1, v2, v3] := by cases args; simp_all
  obtain ⟨rfl, rfl⟩ := trodVars_none hV
  obtain ⟨a0, rfl, rfl, rfl, w0⟩ := open_int Try.underlying3 (hval 0 3 v0 rfl rfl) h0
  obtain ⟨a1, rfl, rfl, rfl, w1⟩ := open_int Try.underlying3 (hval 1 3 v1 rfl rfl) h1
  obtain ⟨a2, rfl, rfl, rfl, w2⟩ := open_int Try.underlying3 (hval 2 3 v2 rfl rfl) h2
  obtain ⟨a3, rfl, rfl, rfl, w3⟩ := open_int Try.underlying3 (hval 3 3 v3 rfl rfl) h3
  clear hA0 hval0
  refine (walk W a0 a1 a2 a3 w0 w1 w2 w3).mono fun e W' ⟨he, bel⟩ => ?_
  subst he
  exact ⟨_, rfl, _, _, _, [], _, [], hW', trodAll_mk1 (shut_bool Try.underlying4 _), (trodAll_cons_mk (shut_int Try.underlying3 w0) (trodAll_cons_mk (shut_int Try.underlying3 w1) (trodAll_cons_mk (shut_int Try.underlying3 w2) (trodAll_cons_mk (shut_int Try.underlying3 w3) trodAll_mk0)))), rfl, bel.frame _, fun h => by cases h⟩

theorem over : Rows.treeTellsRow.holds Try.pinned (OpenSpec.ofChange Rows.treeTellsSpec) :=
  OpenClaim.holds_of_wide 3 Try.f3 rfl rfl rfl rfl rfl rfl rfl ⟨rfl, rfl, rfl, rfl, rfl⟩ rfl rfl rfl rfl rfl (by kernel_rfl) Try.func3 (by kernel_rfl)
    (of_decide_eq_true (by kernel_rfl)) (by unfold Func.isWrapper; first | (rw [if_pos (by decide +kernel)]; kernel_rfl) | (rw [if_neg (by decide +kernel)]; exact ⟨rfl, rfl⟩))
    (fun os started H enc _ => lifted os started H enc)

theorem proved : Rows.TreeTellsSaid := over
end Go.Proofs.Ytgdhbkhhholkgaa.treeTells
namespace Go.Proofs.Ytgdhbkhhholkgaa
theorem treeTells_holds : Rows.TreeTellsSaid := treeTells.proved
#print axioms treeTells_holds
end Go.Proofs.Ytgdhbkhhholkgaa
