/-
  Proved: for every pair of numbers the law SlabEnds returns true; no condition.
-/
import Derived.Test.YtleimdlpcgpjfaaEndsS
import Derived.Below
namespace Go.Proofs.Ytleimdlpcgpjfaa.slabEnds
open Go.ChangeShapes Go.WideShapes Go.ChangeAt Go.RowKit Go.Proofs.Ytleimdlpcgpjfaa.hp Go.Proofs.Ytleimdlpcgpjfaa.dg Go.Proofs.Ytleimdlpcgpjfaa.st
set_option linter.unusedVariables false

set_option maxRecDepth 100000 in
set_option maxHeartbeats 2000000 in
theorem early (w : World) (a0 a1 : Int) (hh : a0 < 1 ∨ 7 < a0 ∨ a1 < 0 ∨ 1099511627776 < a1) :
    Calls Try.prog 7 #[.int .i64 a0, .int .i64 a1] w fun e w' => e = .returned (.bool true) ∧ Below w.heap.size w w' := by
  have hc : (a0 < 1) ∨ (1 ≤ a0 ∧ 7 < a0) ∨ (1 ≤ a0 ∧ a0 ≤ 7 ∧ a1 < 0) ∨ (1 ≤ a0 ∧ a0 ≤ 7 ∧ 0 ≤ a1 ∧ 1099511627776 < a1) := by omega
  clear hh
  rcases hc with h1 | ⟨h1, h2⟩ | ⟨h1, h2, h3⟩ | ⟨h1, h2, h3, h4⟩
  all_goals
    go_enter Try.func7, Try.ntmps7
    go_wp2_with fail
    refine (first_any _).mono ?_
    rintro e w1 ⟨rfl, k1⟩
    go_wp2_with fail
    refine (first_any _).mono ?_
    rintro e w3 ⟨rfl, k3⟩
    go_wp2
    go_ret
    exact ⟨rfl, (k1.then k3).below⟩

set_option maxRecDepth 100000 in
set_option maxHeartbeats 16000000 in
theorem late (w : World) (k o : Nat) (h1 : 1 ≤ k) (h2 : k ≤ 7) (h3 : o ≤ 1099511627776) :
    Calls Try.prog 7 #[.int .i64 k, .int .i64 o] w fun e w' => e = .returned (.bool true) ∧ Below w.heap.size w w' := by
  have i1 : (1 : Int) ≤ k := by omega
  have i2 : (k : Int) ≤ 7 := by omega
  have i3 : (o : Int) ≤ 1099511627776 := by omega
  have hm := most_ge k h1 h2
  obtain ⟨P, hP, hP2⟩ : ∃ P, wrap64 (2 ^ (8 * k)) = P ∧ P - 1 = most k := by
    have q1 := pow_le k h2
    have q2 := pow_pos k
    refine ⟨2 ^ (8 * k), IntWalk.wrap64_in _ ⟨by omega, by omega⟩, rfl⟩
  obtain ⟨M, hM⟩ : ∃ M, most k = M := ⟨_, rfl⟩
  have HM : Hid (most k = M) := hM
  rw [hM] at hm hP2
  obtain rfl : P = M + 1 := by omega
  obtain ⟨m1, m2⟩ := hm
  clear hP2 hM
  go_enter Try.func7, Try.ntmps7
  go_wp2_with fail
  refine (first_any _).mono ?_
  rintro e w1 ⟨rfl, k1⟩
  go_wp2_with fail
  obtain ⟨s1, s2, s3, kc, zc⟩ := wri_three w1
  obtain ⟨w4, hw4⟩ : ∃ w4, (((w1.alloc (.cells #[.slice none 0 0, .bool false] 28)).alloc (.cells #[.slice none 0 0, .bool false] 28)).alloc (.cells #[.slice none 0 0, .bool false] 28)) = w4 := ⟨_, rfl⟩
  obtain ⟨p1, hp1⟩ : ∃ p1, w1.heap.size = p1 := ⟨_, rfl⟩
  obtain ⟨p2, hp2⟩ : ∃ p2, p1 + 1 = p2 := ⟨_, rfl⟩
  obtain ⟨p3, hp3⟩ : ∃ p3, p2 + 1 = p3 := ⟨_, rfl⟩
  have hp4 : p1 + 2 = p3 := by omega
  rw [hw4] at s1 s2 s3 kc zc
  rw [hp1] at s1 s2 s3 zc
  rw [hp2] at s2
  rw [hp4] at s3
  have hz : p3 + 1 = w4.heap.size := by omega
  simp only [hw4, hp1, hp2, hp3, hz]
  have K4 := k1.then kc
  have kz := k1.size
  clear hw4 hp4 kc k1
  refine (num_new (s := ([], false)) s1 (by simp) k [M - 1, -1, 0] (by simp)).mono ?_
  rintro e w5 ⟨rfl, hW⟩
  have e1 : nums k ([], false) [M - 1, -1, 0] = (enc (M - 1) k ++ (enc (-1) k ++ (enc 0 k ++ [])), false) := by
    have := ends_w k h1 h2
    rw [HM.out] at this
    exact this
  rw [e1] at hW
  have c5 := hW.2
  have t2 := s2.chg c5 (fun b hb hb' => by omega)
  have t3 := s3.chg c5 (fun b hb hb' => by omega)
  have T1 : Hid (Wri w5 p1 (Wid (fun k => k = p1) w4 w5) (enc (M - 1) k ++ (enc (-1) k ++ (enc 0 k ++ []))) false) := hW.1
  have z5 := c5.size
  clear s1 s2 s3 e1 hW
  go_wp2_with fail
  refine (num_new (s := ([], false)) t2 (by simp) 1 [7] (by simp)).mono ?_
  rintro e w6 ⟨rfl, hV⟩
  have e2 : nums 1 ([], false) [7] = ([7], false) := by decide
  rw [e2] at hV
  have z6 := hV.2.size
  clear t2 e2
  go_wp2_with fail
  refine (num_new (s := ([7], false)) hV.1 (by simp) k [M + o] (by simp)).mono ?_
  rintro e w7 ⟨rfl, hV7⟩
  have e3 : nums k ([7], false) [M + o] = ([7], true) := by
    rw [nums_one k _ _ h1 h2, stp_bad k _ _ h1 h2 (.inr (by rw [HM.out]; omega))]
  rw [e3] at hV7
  have hV7' := hV.step hV7.1 hV7.2
  clear hV hV7 e3
  go_wp2_with fail
  refine (num_new (s := ([7], true)) hV7'.1 (by simp) 1 [8] (by simp)).mono ?_
  rintro e w8 ⟨rfl, hV8⟩
  have e4 : nums 1 ([7], true) [8] = ([7], true) := by decide
  rw [e4] at hV8
  have hV8' := hV7'.step hV8.1 hV8.2
  have z8 := hV8'.2.size
  have u3 := t3.chg hV8'.2 (fun b hb hb' => by omega)
  have T2 : Hid (Wri w8 p1 (Wid (fun k => k = p1) w4 w5) (enc (M - 1) k ++ (enc (-1) k ++ (enc 0 k ++ []))) false) := T1.out.chg hV8'.2 (fun b hb hb' => by
    rcases hb with hb | hb <;> omega)
  have T3 : Hid (Wri w8 p2 (Wid (fun k => k = p2) w5 w8) [7] true) := hV8'.1
  have c8 := hV8'.2
  clear hV7' hV8 hV8' t3 e4 T1
  go_wp2_with fail
  refine (num_new (s := ([], false)) u3 (by simp) k [-2 - (o : Int)] (by simp)).mono ?_
  rintro e w9 ⟨rfl, hU⟩
  have e5 : nums k ([], false) [-2 - (o : Int)] = ([], true) := by
    rw [nums_one k _ _ h1 h2, stp_bad k _ _ h1 h2 (.inl (by omega))]
  rw [e5] at hU
  have c9 := hU.2
  have z9 := c9.size
  have q1 : Wri w9 p1 (Wid (fun k => k = p1) w4 w5) (enc (M - 1) k ++ (enc (-1) k ++ (enc 0 k ++ []))) false := T2.out.chg c9 (fun b hb hb' => by rcases hb with hb | hb <;> omega)
  have q2 : Wri w9 p2 (Wid (fun k => k = p2) w5 w8) [7] true := T3.out.chg c9 (fun b hb hb' => by rcases hb with hb | hb <;> omega)
  have q3 : Wri w9 p3 (Wid (fun k => k = p3) w8 w9) [] true := hU.1
  have K9 : Chg no w w9 := ((K4.trans c5 (fun b hb => .inr (by omega))).trans c8 (fun b hb => .inr (by omega))).trans c9 (fun b hb => .inr (by omega))
  clear T2 T3 u3 e5 hU c5 c8 c9 K4
  have hbl : (enc (M - 1) k ++ (enc (-1) k ++ (enc 0 k ++ []))).length = 3 * k := by simp [enc_length]; omega
  have HS := sealed_ok q1 (n := 3 * k) (by omega) (by omega)
  have hfill : fill (enc (M - 1) k ++ (enc (-1) k ++ (enc 0 k ++ []))) (3 * k) = enc (M - 1) k ++ (enc (-1) k ++ (enc 0 k ++ [])) := by unfold fill; rw [hbl]; simp
  rw [hfill] at HS
  have hcast : ((3 * k : Nat) : Int) = 3 * (k : Int) := by omega
  rw [hcast] at HS
  clear hfill hcast
  go_wp2_with fail
  refine HS.mono ?_
  rintro e wa ⟨rfl, ga, ka⟩
  have r2 := q2.same ka
  have r3 := q3.same ka
  clear HS q1 q2 q3
  go_wp2_with fail
  refine (sealed_range r2 100 (.inl rfl)).mono ?_
  rintro e wb ⟨rfl, rfl⟩
  go_wp2_with fail
  refine (sealed_range r3 100 (.inl rfl)).mono ?_
  rintro e wc ⟨rfl, rfl⟩
  have hL := block_lies ga
  rw [hbl] at hL
  have hN := newReader_any wc _ _ hL ((enc_bytes _ _).append ((enc_bytes _ _).append ((enc_bytes _ _).append bytes_nil))) (by omega)
  go_wp2_with fail
  refine hN.mono ?_
  rintro e wd ⟨r, rfl, hR, kd⟩
  have v2 := len_any (r2.same kd)
  have v3 := len_any (r3.same kd)
  have hr : w.heap.size ≤ r := by
    have x1 := hR.fp.1
    have x2 := K9.size
    have x3 := ka.size
    omega
  have Kd := (K9.then ka).then kd
  clear hN hL r2 r3 kd ka K9 ga
  go_wp2_with fail
  refine v2.mono ?_
  rintro e we ⟨rfl, rfl⟩
  go_wp2_with fail
  refine v3.mono ?_
  rintro e wf ⟨rfl, rfl⟩
  clear v2 v3
  go_wp2_with fail
  refine (first_any _).mono ?_
  rintro e wg ⟨rfl, kg⟩
  have hRg := hR.same kg
  have b1 := num_back (M - 1) k (enc (-1) k ++ (enc 0 k ++ [])) h1 h2 (by omega) (by rw [HM.out]; omega)
  have b2 := num_back (-1) k (enc 0 k ++ []) h1 h2 (by omega) (by rw [HM.out]; omega)
  have b3 := num_back 0 k [] h1 h2 (by omega) (by rw [HM.out]; omega)
  have b4 := num_none k h1 h2
  have N1 := rnum_r (s := (enc (M - 1) k ++ (enc (-1) k ++ (enc 0 k ++ [])), 0)) hRg k
  rw [b1.1, b1.2] at N1
  clear hRg hR b1
  go_wp2_with fail
  refine N1.mono ?_
  rintro e wh ⟨rfl, hRh, ch⟩
  have N2 := rnum_r (s := (enc (-1) k ++ (enc 0 k ++ []), 0)) hRh k
  rw [b2.1, b2.2] at N2
  clear N1 hRh b2
  go_wp2_with fail
  refine N2.mono ?_
  rintro e wi ⟨rfl, hRi, ci⟩
  have N3 := rnum_r (s := (enc 0 k ++ [], 0)) hRi k
  rw [b3.1, b3.2] at N3
  clear N2 hRi b3
  go_wp2_with fail
  refine N3.mono ?_
  rintro e wj ⟨rfl, hRj, cj⟩
  have N4 := end_any (s := ([], 0)) hRj (by simp)
  have e7 : endS ([], 0) = 0 := by decide
  rw [e7] at N4
  have N5 := rnum_r (s := ([], 0)) hRj k
  rw [b4.1, b4.2] at N5
  clear N3 hRj b4
  go_wp2_with fail
  refine N4.mono ?_
  rintro e wk ⟨rfl, rfl⟩
  clear N4
  go_wp2_with fail
  refine N5.mono ?_
  rintro e wl ⟨rfl, hRl, cl⟩
  have N6 := err_any hRl
  have N7 := end_any (s := ([], 3)) hRl (by simp)
  have e8 : endS ([], 3) = 3 := by decide
  rw [e8] at N7
  clear N5 hRl
  go_wp2_with fail
  refine N6.mono ?_
  rintro e wm ⟨rfl, rfl⟩
  clear N6
  go_wp2_with fail
  refine N7.mono ?_
  rintro e wn ⟨rfl, rfl⟩
  clear N7
  go_wp2
  go_ret
  have J1 := Kd.then kg
  have J2 := J1.trans ch (fun b hb => .inr (by omega))
  have J3 := J2.trans ci (fun b hb => .inr (by omega))
  have J4 := J3.trans cj (fun b hb => .inr (by omega))
  have J5 := J4.trans cl (fun b hb => .inr (by omega))
  exact ⟨rfl, J5.below⟩

theorem walk (w : World) (a0 a1 : Int) (w0 : (Lit.int .i64 a0).wf = true) (w1 : (Lit.int .i64 a1).wf = true) :
    Calls Try.prog 7 #[.int .i64 a0, .int .i64 a1] w fun e w' => e = .returned (.bool true) ∧ Below w.heap.size w w' := by
  by_cases hh : a0 < 1 ∨ 7 < a0 ∨ a1 < 0 ∨ 1099511627776 < a1
  · exact early w a0 a1 hh
  · obtain ⟨k, rfl⟩ := Int.eq_ofNat_of_zero_le (show 0 ≤ a0 by omega)
    obtain ⟨o, rfl⟩ := Int.eq_ofNat_of_zero_le (show 0 ≤ a1 by omega)
    exact late w k o (by omega) (by omega) (by omega)

theorem own : ownKnob Try.prog.godebug = none := by kernel_rfl
theorem laidOut : laidOutB Try.prog = true := by kernel_rfl

set_option maxRecDepth 100000 in
theorem lifted (os : Os) (started : os.Started) (H : Type) (enc : TypeId × Value → H) :
    ReturnsInHanded {} Try.checked os 7 .any (Rows.slabEndsSpec.pre6 enc Try.prog Try.f7 Rows.slabEndsRow.domain false) (Rows.slabEndsSpec.post enc Try.prog Try.f7 false true false false) := by
  refine returnsInHanded_of_change (C := Try.checked) own started (by kernel_rfl) Try.func7
    (ChangeSpec.witness6 (enc := enc) (C := Try.checked) false ⟨#[], #[.int .i64 0, .int .i64 0], []⟩ 8 (by kernel_rfl) (by kernel_rfl) (by kernel_rfl) (by kernel_rfl)) ?_
  intro W base args ds gs before hval0 hW hcnd _
  have hval : ∀ (j : Nat) t v, Try.f7.params[j]? = some t → args[j]? = some v → Value.okWide Try.prog W .any base t v := hval0
  have hW' := hW
  obtain ⟨p, q, hA0, hV, rfl, hfz, hnd⟩ := hW
  have hA : DataW.TrodAll enc Try.prog W 0 (fun _ => true) true Try.f7.params.toList args.toList ds p := hA0
  rw [Try.params7] at hA hval
  obtain ⟨v0, vs0, d0, ds0, p0, q0, hargs, rfl, rfl, h0, r0⟩ := trodAll_cons hA
  obtain ⟨v1, vs1, d1, ds1, p1, q1, rfl, rfl, rfl, h1, r1⟩ := trodAll_cons r0
  obtain ⟨rfl, rfl, rfl⟩ := trodAll_nil r1
  obtain rfl : args = #[v0, v1] := by cases args; simp_all
  obtain ⟨rfl, rfl⟩ := trodVars_none hV
  obtain ⟨a0, rfl, rfl, rfl, w0⟩ := open_int Try.underlying3 (hval 0 3 v0 rfl rfl) h0
  obtain ⟨a1, rfl, rfl, rfl, w1⟩ := open_int Try.underlying3 (hval 1 3 v1 rfl rfl) h1
  clear hA0 hval0
  refine (walk W a0 a1 w0 w1).mono fun e W' ⟨he, bel⟩ => ?_
  subst he
  exact ⟨_, rfl, _, _, _, [], _, [], hW', trodAll_mk1 (shut_bool Try.underlying4 _), (trodAll_cons_mk (shut_int Try.underlying3 w0) (trodAll_cons_mk (shut_int Try.underlying3 w1) trodAll_mk0)), rfl, bel.frame _, fun h => by cases h⟩

theorem over : Rows.slabEndsRow.holds Try.pinned (OpenSpec.ofChange Rows.slabEndsSpec) :=
  OpenClaim.holds_of_wide 7 Try.f7 rfl rfl rfl rfl rfl rfl rfl ⟨rfl, rfl, rfl, rfl, rfl⟩ rfl rfl rfl rfl rfl (by kernel_rfl) Try.func7 (by kernel_rfl)
    (of_decide_eq_true (by kernel_rfl)) (by unfold Func.isWrapper; first | (rw [if_pos (by decide +kernel)]; kernel_rfl) | (rw [if_neg (by decide +kernel)]; exact ⟨rfl, rfl⟩))
    (fun os started H enc _ => lifted os started H enc)

theorem proved : Rows.SlabEndsSaid := over
end Go.Proofs.Ytleimdlpcgpjfaa.slabEnds
namespace Go.Proofs.Ytleimdlpcgpjfaa
theorem slabEnds_holds : Rows.SlabEndsSaid := slabEnds.proved
#print axioms slabEnds_holds
end Go.Proofs.Ytleimdlpcgpjfaa
