/-
  Proved: for every z and any two lists of blocks the law BucketApart returns true; no condition.
-/
import Derived.Test.YtlcbfdbnjohicaaArg
import Derived.Test.YtlcbfdbnjohicaaRows
namespace Go.Proofs.Ytlcbfdbnjohicaa.bucketApart
open Go.ChangeShapes Go.WideShapes Go.ChangeAt Go.RowKit Go.Proofs.Ytlcbfdbnjohicaa.hp Go.Proofs.Ytlcbfdbnjohicaa.dg Go.Proofs.Ytlcbfdbnjohicaa.st
set_option linter.unusedVariables false

set_option maxHeartbeats 8000000 in
theorem late (w : World) (z : Int) (a1 : Option Addr) (c1 : Nat) (xs : List BV) (hx : Bks w (.slice a1 xs.length c1) xs) (a2 : Option Addr) (c2 : Nat) (ys : List BV) (hy : Bks w (.slice a2 ys.length c2) ys) :
    Calls Try.prog 6 #[.int .i64 z, .slice a1 xs.length c1, .slice a2 ys.length c2] w fun e w' => e = .returned (.bool true) ∧ Below w.heap.size w w' := by
  have HF := first_any
  have HW1 : Hid (∀ W, Chg no w W → Calls Try.prog 9 #[.slice a1 xs.length c1] W (FewRes xs.length W)) := fun W k => few_any W _ xs (hx.later k)
  have HW2 : Hid (∀ W, Chg no w W → Calls Try.prog 9 #[.slice a2 ys.length c2] W (FewRes ys.length W)) := fun W k => few_any W _ ys (hy.later k)
  have HX : Hid (∀ W, Chg no w W → Bks W (.slice a1 xs.length c1) xs) := fun W k => hx.later k
  have HY : Hid (∀ W, Chg no w W → Bks W (.slice a2 ys.length c2) ys) := fun W k => hy.later k
  have HB1 : Hid (Bytes (encL z (abs xs)).1) := enc_bytes (abs_bytes hx)
  have HB2 : Hid (Bytes (encL z (abs ys)).1) := enc_bytes (abs_bytes hy)
  obtain ⟨n1, hn1⟩ : ∃ n1, xs.length = n1 := ⟨_, rfl⟩
  have HL1 : Hid (xs.length = n1) := hn1
  obtain ⟨n2, hn2⟩ : ∃ n2, ys.length = n2 := ⟨_, rfl⟩
  have HL2 : Hid (ys.length = n2) := hn2
  rw [hn1] at HW1 HX ⊢
  rw [hn2] at HW2 HY ⊢
  clear hx hy hn1 hn2
  go_enter Try.func6, Try.ntmps6
  go_wp2_with fail
  refine (HF w).mono ?_
  rintro e w1 ⟨rfl, k1⟩
  go_wp2_with fail
  refine (HW1.out w1 k1).mono ?_
  rintro e w2 ⟨b, rfl, hb, rfl⟩
  clear HW1
  cases b
  · go_wp2_with fail
    refine (HF w2).mono ?_
    rintro e w3 ⟨rfl, k3⟩
    go_wp2
    go_ret
    exact ⟨rfl, (k1.then k3).below⟩
  · have hb1 : n1 ≤ 200 := hb rfl
    clear hb
    go_wp2_with fail
    refine (HW2.out w2 k1).mono ?_
    rintro e w3 ⟨b, rfl, hb, rfl⟩
    clear HW2
    cases b
    · go_wp2_with fail
      refine (HF w3).mono ?_
      rintro e w4 ⟨rfl, k4⟩
      go_wp2
      go_ret
      exact ⟨rfl, (k1.then k4).below⟩
    · have hb2 : n2 ≤ 200 := hb rfl
      clear hb
      have HE1 := encode_any w3 z (.slice a1 n1 c1) xs (HX.out w3 k1) (by rw [HL1.out]; omega)
      have HE2 : Hid (∀ W, Chg no w W → Calls Try.prog 10 #[.int .i64 z, .slice a2 n2 c2] W (EncR (encL z (abs ys)) W)) := fun W k => encode_any W z (.slice a2 n2 c2) ys (HY.out W k) (by rw [HL2.out]; omega)
      have HI := fun h k => enc_inj (z := z) (l := abs xs) (m := abs ys) h k
      have HO1 := fun h => enc_ok (z := z) (l := abs xs) h
      have HO2 := fun h => enc_ok (z := z) (l := abs ys) h
      obtain ⟨⟨X, e1⟩, hE1⟩ : ∃ R, encL z (abs xs) = R := ⟨_, rfl⟩
      obtain ⟨⟨Y, e2⟩, hE2⟩ : ∃ R, encL z (abs ys) = R := ⟨_, rfl⟩
      rw [hE1] at HE1 HI HO1 HB1
      rw [hE2] at HE2 HI HO2 HB2
      simp only at HI HO1 HO2 HB1 HB2
      clear hE1 hE2
      go_wp2_with fail
      refine HE1.mono ?_
      rintro e w4 ⟨v4, rfl, l4, k4⟩
      obtain ⟨a4, c4, rfl, _⟩ := l4.slice
      simp only [List.length_map] at l4 ⊢
      have K4 := k1.then k4
      clear HE1
      go_wp2_with fail
      refine (HE2.out w4 K4).mono ?_
      rintro e w5 ⟨v5, rfl, l5, k5⟩
      obtain ⟨a5, c5, rfl, _⟩ := l5.slice
      simp only [List.length_map] at l5 ⊢
      have HK5 : Hid (Chg no w w5) := K4.then k5
      have HQ : Hid (∀ W, Chg no w5 W → Calls Try.prog 13 #[.slice a4 X.length c4, .slice a5 Y.length c5] W fun e w' => e = .returned (.bool (decide (X = Y))) ∧ w' = W) := fun W k => bytes_any (l4.chg (k5.then k) (fun _ _ h => h)) (l5.chg k (fun _ _ h => h)) HB1.out HB2.out
      clear HE2 K4 k5 l4 l5 k4 k1
      by_cases h1 : e1 = 0
      · by_cases h2 : e2 = 0
        · have hI := HI h1 h2
          obtain ⟨r1, r2, r3, r4, r5⟩ := HO1 h1
          obtain ⟨s1, s2, s3, s4, s5⟩ := HO2 h2
          have hXl : X.length = 38 * z.toNat := by
            rw [show X = fill (bodyB (abs xs)) (38 * z.toNat) from congrArg Prod.fst r5]
            exact fill_len38 r1 r3 r4
          have hYl : Y.length = 38 * z.toNat := by
            rw [show Y = fill (bodyB (abs ys)) (38 * z.toNat) from congrArg Prod.fst s5]
            exact fill_len38 s1 s3 s4
          have hlen : lenL z = ((38 * z.toNat : Nat) : Int) := by
            unfold lenL
            rw [if_pos ⟨r1, r2⟩]
            omega
          have HLn := fun W => length_any W z
          rw [hlen] at HLn
          have HS : Hid (∀ W, Chg no w W → Calls Try.prog 18 #[.slice a1 n1 c1, .slice a2 n2 c2] W fun e w' => e = .returned (.bool (decide (X = Y))) ∧ Chg no W w') := by
            intro W k
            have := same_any W (.slice a1 n1 c1) (.slice a2 n2 c2) xs ys (HX.out W k) (HY.out W k) (by rw [HL1.out]; omega) (by rw [HL2.out]; omega)
            have e : sameL (abs xs) (abs ys) = decide (X = Y) := by
              unfold sameL
              exact decide_eq_decide.2 hI.symm
            rw [e] at this
            exact this
          rw [hXl, hYl] at HQ
          rw [hXl, hYl]
          obtain ⟨N, hN⟩ : ∃ N, 38 * z.toNat = N := ⟨_, rfl⟩
          rw [hN] at HQ HLn ⊢
          obtain ⟨B, hB⟩ : ∃ B, decide (X = Y) = B := ⟨_, rfl⟩
          rw [hB] at HQ HS
          have hBB : (B == B) = true := by simp
          subst h1 h2
          clear hI r1 r2 r3 r4 r5 s1 s2 s3 s4 s5 hXl hYl hlen hN hB HI HO1 HO2 HX HY HL1 HL2 HB1 HB2
          go_wp2_with fail
          refine (HF w5).mono ?_
          rintro e w6 ⟨rfl, k6⟩
          have HQ6 := HQ.out w6 k6
          have HK6 : Hid (Chg no w w6) := HK5.out.then k6
          clear HQ k6
          go_wp2_with fail
          refine (HLn w6).mono ?_
          rintro e w7 ⟨rfl, rfl⟩
          go_wp2_with fail
          refine HQ6.mono ?_
          rintro e w8 ⟨rfl, rfl⟩
          go_wp2_with fail
          refine (HS.out _ HK6.out).mono ?_
          rintro e w9 ⟨rfl, k9⟩
          go_wp2
          go_ret
          exact ⟨rfl, (HK6.out.then k9).below⟩
        · have hne : (e2 != 0) = true := by simpa using h2
          subst h1
          clear HI HO1 HO2 h2 HQ
          go_wp2_with fail
          refine (HF w5).mono ?_
          rintro e w6 ⟨rfl, k6⟩
          go_wp2
          go_ret
          exact ⟨rfl, (HK5.out.then k6).below⟩
      · have hne : (e1 != 0) = true := by simpa using h1
        clear HI HO1 HO2 h1 HQ
        go_wp2_with fail
        refine (HF w5).mono ?_
        rintro e w6 ⟨rfl, k6⟩
        go_wp2
        go_ret
        exact ⟨rfl, (HK5.out.then k6).below⟩

theorem walk (w : World) (z : Int) (a1 : Option Addr) (l1 c1 : Nat) (xs : List BV) (a2 : Option Addr) (l2 c2 : Nat) (ys : List BV) (w0 : (Lit.int .i64 z).wf = true) (w1 : xs.length = l1 ∧ Bks w (.slice a1 l1 c1) xs) (q1 : l1 ≤ c1 ∧ c1 ≤ maxLen) (w2 : ys.length = l2 ∧ Bks w (.slice a2 l2 c2) ys) (q2 : l2 ≤ c2 ∧ c2 ≤ maxLen) :
    Calls Try.prog 6 #[.int .i64 z, .slice a1 l1 c1, .slice a2 l2 c2] w fun e w' => e = .returned (.bool true) ∧ Below w.heap.size w w' := by
  obtain ⟨rfl, hx⟩ := w1
  obtain ⟨rfl, hy⟩ := w2
  exact late w z a1 c1 xs hx a2 c2 ys hy

theorem own : ownKnob Try.prog.godebug = none := by kernel_rfl
theorem laidOut : laidOutB Try.prog = true := by kernel_rfl

set_option maxRecDepth 100000 in
theorem lifted (os : Os) (started : os.Started) (H : Type) (enc : TypeId × Value → H) :
    ReturnsInHanded {} Try.checked os 6 .any (Rows.bucketApartSpec.pre6 enc Try.prog Try.f6 Rows.bucketApartRow.domain false) (Rows.bucketApartSpec.post enc Try.prog Try.f6 false true false false) := by
  refine returnsInHanded_of_change (C := Try.checked) own started (by kernel_rfl) Try.func6
    (ChangeSpec.witness6 (enc := enc) (C := Try.checked) false ⟨#[], #[.int .i64 0, .slice none 0 0, .slice none 0 0], []⟩ 8 (by kernel_rfl) (by kernel_rfl) (by kernel_rfl) (by kernel_rfl)) ?_
  intro W base args ds gs before hval0 hW hcnd _
  have hval : ∀ (j : Nat) t v, Try.f6.params[j]? = some t → args[j]? = some v → Value.okWide Try.prog W .any base t v := hval0
  have hW' := hW
  obtain ⟨p, q, hA0, hV, rfl, hfz, hnd⟩ := hW
  have hA : DataW.TrodAll enc Try.prog W 0 (fun _ => true) true Try.f6.params.toList args.toList ds p := hA0
  rw [Try.params6] at hA hval
  obtain ⟨v0, vs0, d0, ds0, p0, q0, hargs, rfl, rfl, h0, r0⟩ := trodAll_cons hA
  obtain ⟨v1, vs1, d1, ds1, p1, q1, rfl, rfl, rfl, h1, r1⟩ := trodAll_cons r0
  obtain ⟨v2, vs2, d2, ds2, p2, q2, rfl, rfl, rfl, h2, r2⟩ := trodAll_cons r1
  obtain ⟨rfl, rfl, rfl⟩ := trodAll_nil r2
  obtain rfl : args = #[v0, v1, v2] := by cases args; simp_all
  obtain ⟨rfl, rfl⟩ := trodVars_none hV
  obtain ⟨a0, rfl, rfl, rfl, w0⟩ := open_int Try.underlying3 (hval 0 3 v0 rfl rfl) h0
  obtain ⟨a1, len1, cap1, rfl⟩ := okWide_slice Try.underlying22 (hval 1 22 v1 rfl rfl)
  have k1 := h1
  have lt1 : ∀ x ∈ p1, x.block < W.heap.size := by obtain ⟨m, hm⟩ := k1; exact DataW.trod_lt m _ _ _ hm
  have c1 : len1 ≤ cap1 ∧ cap1 ≤ maxLen := by obtain ⟨m, hm⟩ := k1; exact open_cap Try.underlying22 hm
  obtain ⟨z1, w1⟩ := (by obtain ⟨fuel, hf⟩ := h1; exact open_blocks hf : ∃ z : List BV, z.length = len1 ∧ Bks W (.slice a1 len1 cap1) z)
  obtain ⟨a2, len2, cap2, rfl⟩ := okWide_slice Try.underlying22 (hval 2 22 v2 rfl rfl)
  have k2 := h2
  have lt2 : ∀ x ∈ p2, x.block < W.heap.size := by obtain ⟨m, hm⟩ := k2; exact DataW.trod_lt m _ _ _ hm
  have c2 : len2 ≤ cap2 ∧ cap2 ≤ maxLen := by obtain ⟨m, hm⟩ := k2; exact open_cap Try.underlying22 hm
  obtain ⟨z2, w2⟩ := (by obtain ⟨fuel, hf⟩ := h2; exact open_blocks hf : ∃ z : List BV, z.length = len2 ∧ Bks W (.slice a2 len2 cap2) z)
  clear hA0 hval0
  refine (walk W a0 a1 len1 cap1 z1 a2 len2 cap2 z2 w0 w1 c1 w2 c2).mono fun e W' ⟨he, bel⟩ => ?_
  subst he
  exact ⟨_, rfl, _, _, _, [], _, [], hW', trodAll_mk1 (shut_bool Try.underlying4 _), (trodAll_cons_mk (shut_int Try.underlying3 w0) (trodAll_cons_mk (Below.trod laidOut (by kernel_rfl) (of_decide_eq_true (by kernel_rfl)) k1 bel lt1) (trodAll_cons_mk (Below.trod laidOut (by kernel_rfl) (of_decide_eq_true (by kernel_rfl)) k2 bel lt2) trodAll_mk0))), rfl, bel.frame _, fun h => by cases h⟩

theorem over : Rows.bucketApartRow.holds Try.pinned (OpenSpec.ofChange Rows.bucketApartSpec) :=
  OpenClaim.holds_of_wide 6 Try.f6 rfl rfl rfl rfl rfl rfl rfl ⟨rfl, rfl, rfl, rfl, rfl⟩ rfl rfl rfl rfl rfl (by kernel_rfl) Try.func6 (by kernel_rfl)
    (of_decide_eq_true (by kernel_rfl)) (by unfold Func.isWrapper; first | (rw [if_pos (by decide +kernel)]; kernel_rfl) | (rw [if_neg (by decide +kernel)]; exact ⟨rfl, rfl⟩))
    (fun os started H enc _ => lifted os started H enc)

theorem proved : Rows.BucketApartSaid := over
end Go.Proofs.Ytlcbfdbnjohicaa.bucketApart
namespace Go.Proofs.Ytlcbfdbnjohicaa
theorem bucketApart_holds : Rows.BucketApartSaid := bucketApart.proved
#print axioms bucketApart_holds
end Go.Proofs.Ytlcbfdbnjohicaa
