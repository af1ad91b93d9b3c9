/-
  Proved: for every z and any two lists of blocks the law BucketWrites returns true; no condition.
-/
import Derived.Test.YtlcbfdbnjohicaaArg
import Derived.Test.YtlcbfdbnjohicaaRows
namespace Go.Proofs.Ytlcbfdbnjohicaa.bucketWrites
open Go.ChangeShapes Go.WideShapes Go.ChangeAt Go.RowKit Go.Proofs.Ytlcbfdbnjohicaa.hp Go.Proofs.Ytlcbfdbnjohicaa.dg Go.Proofs.Ytlcbfdbnjohicaa.st
set_option linter.unusedVariables false

set_option maxHeartbeats 8000000 in
theorem late (w : World) (z : Int) (a1 : Option Addr) (c1 : Nat) (xs : List BV) (hx : Bks w (.slice a1 xs.length c1) xs) (a2 : Option Addr) (c2 : Nat) (ys : List BV) (hy : Bks w (.slice a2 ys.length c2) ys) :
    Calls Try.prog 3 #[.int .i64 z, .slice a1 xs.length c1, .slice a2 ys.length c2] w fun e w' => e = .returned (.bool true) ∧ Below w.heap.size w w' := by
  have HF := first_any
  have HW1 : Hid (∀ W, Chg no w W → Calls Try.prog 9 #[.slice a1 xs.length c1] W (FewRes xs.length W)) := fun W k => few_any W _ xs (hx.later k)
  have HW2 : Hid (∀ W, Chg no w W → Calls Try.prog 9 #[.slice a2 ys.length c2] W (FewRes ys.length W)) := fun W k => few_any W _ ys (hy.later k)
  have HX : Hid (∀ W, Chg no w W → Bks W (.slice a1 xs.length c1) xs) := fun W k => hx.later k
  have HY : Hid (∀ W, Chg no w W → Bks W (.slice a2 ys.length c2) ys) := fun W k => hy.later k
  have HB1 : Hid (Bytes (encL z (abs xs)).1) := enc_bytes (abs_bytes hx)
  have HB2 : Hid (Bytes (encL z (abs ys)).1) := enc_bytes (abs_bytes hy)
  obtain ⟨n1, hn1⟩ : ∃ n1, xs.length = n1 := ⟨_, rfl⟩
  have HL1 : Hid (xs.length = n1) := hn1
  obtain ⟨n2, hn2⟩ : ∃ n2, ys.length = n2 := ⟨_, rfl⟩
  have HL2 : Hid (ys.length = n2) := hn2
  rw [hn1] at HW1 HX ⊢
  rw [hn2] at HW2 HY ⊢
  clear hx hy hn1 hn2
  go_enter Try.func3, Try.ntmps3
  go_wp2_with fail
  refine (HF w).mono ?_
  rintro e w1 ⟨rfl, k1⟩
  go_wp2_with fail
  refine (HW1.out w1 k1).mono ?_
  rintro e w2 ⟨b, rfl, hb, rfl⟩
  clear HW1
  cases b
  · go_wp2_with fail
    refine (HF w2).mono ?_
    rintro e w3 ⟨rfl, k3⟩
    go_wp2
    go_ret
    exact ⟨rfl, (k1.then k3).below⟩
  · have hb1 : n1 ≤ 200 := hb rfl
    clear hb
    go_wp2_with fail
    refine (HW2.out w2 k1).mono ?_
    rintro e w3 ⟨b, rfl, hb, rfl⟩
    clear HW2
    cases b
    · go_wp2_with fail
      refine (HF w3).mono ?_
      rintro e w4 ⟨rfl, k4⟩
      go_wp2
      go_ret
      exact ⟨rfl, (k1.then k4).below⟩
    · have hb2 : n2 ≤ 200 := hb rfl
      clear hb
      have HE1 := encode_any w3 z (.slice a1 n1 c1) xs (HX.out w3 k1) (by rw [HL1.out]; omega)
      have HP1 : Hid (∀ W, Chg no w W → Calls Try.prog 12 #[.slice a1 n1 c1] W fun e w' => ∃ v', e = .returned v' ∧ NewB 55 no W (Old W) xs v' w') := fun W k => plain_any W _ xs (HX.out W k) (by rw [HL1.out]; omega)
      have HP2 : Hid (∀ W, Chg no w W → Calls Try.prog 12 #[.slice a2 n2 c2] W fun e w' => ∃ v', e = .returned v' ∧ NewB 55 no W (Old W) ys v' w') := fun W k => plain_any W _ ys (HY.out W k) (by rw [HL2.out]; omega)
      have HM1 : Hid (∀ W, Chg no w W → Calls Try.prog 14 #[.slice a1 n1 c1] W fun e w' => e = .returned (.bool (mayL (abs xs))) ∧ Chg no W w') := fun W k => may_any W _ xs (HX.out W k) (by rw [HL1.out]; omega)
      have HR1 : Hid (∀ W v, Bks W v xs → Calls Try.prog 11 #[.int .i64 z, v] W (EncR (encL z (abs xs)) W)) := fun W v h => rencode_any W z v xs h (by rw [HL1.out]; omega)
      have HRM : Hid (∀ W v, Bks W v xs → Calls Try.prog 15 #[v] W fun e w' => e = .returned (.bool (mayL (abs xs))) ∧ Chg no W w') := fun W v h => rmay_any W v xs h (by rw [HL1.out]; omega)
      have HS : Hid (∀ W, Chg no w W → Calls Try.prog 18 #[.slice a1 n1 c1, .slice a2 n2 c2] W fun e w' => e = .returned (.bool (sameL (abs xs) (abs ys))) ∧ Chg no W w') := fun W k => same_any W _ _ xs ys (HX.out W k) (HY.out W k) (by rw [HL1.out]; omega) (by rw [HL2.out]; omega)
      have HRS : Hid (∀ W v v', Bks W v xs → Bks W v' ys → Calls Try.prog 19 #[v, v'] W fun e w' => e = .returned (.bool (sameL (abs xs) (abs ys))) ∧ Chg no W w') := fun W v v' h h' => rsame_any W v v' xs ys h h' (by rw [HL1.out]; omega) (by rw [HL2.out]; omega)
      have HLn := fun W => length_any W z
      have HLr := fun W => rlength_any W z
      obtain ⟨⟨X, e1⟩, hE1⟩ : ∃ R, encL z (abs xs) = R := ⟨_, rfl⟩
      obtain ⟨M, hM⟩ : ∃ M, mayL (abs xs) = M := ⟨_, rfl⟩
      obtain ⟨S, hS⟩ : ∃ S, sameL (abs xs) (abs ys) = S := ⟨_, rfl⟩
      obtain ⟨N, hN⟩ : ∃ N, lenL z = N := ⟨_, rfl⟩
      rw [hE1] at HE1 HR1 HB1
      rw [hM] at HM1 HRM
      rw [hS] at HS HRS
      rw [hN] at HLn HLr
      simp only at HB1
      have h1 : (e1 == e1) = true := by simp
      have h2 : (M == M) = true := by simp
      have h3 : (S == S) = true := by simp
      have h4 : (N == N) = true := by simp
      have HK3 : Hid (Chg no w w3) := k1
      clear hE1 hM hS hN HX HY HL1 HL2 HB2 k1
      go_wp2_with fail
      refine HE1.mono ?_
      rintro e w4 ⟨v4, rfl, l4, k4⟩
      obtain ⟨a4, c4, rfl, _⟩ := l4.slice
      simp only [List.length_map] at l4 ⊢
      have K4 := HK3.out.then k4
      clear HE1 k4
      go_wp2_with fail
      refine (HP1.out w4 K4).mono ?_
      rintro e w5 ⟨v5, rfl, N5⟩
      have HR5 := HR1.out w5 v5 N5.bks
      obtain ⟨a5, c5, rfl⟩ := N5.shape
      have K5 := K4.then N5.chg
      have l4b := l4.chg N5.chg (fun _ _ h => h)
      clear HR1 N5 K4 l4
      go_wp2_with fail
      refine HR5.mono ?_
      rintro e w6 ⟨v6, rfl, l6, k6⟩
      obtain ⟨a6, c6, rfl, _⟩ := l6.slice
      simp only [List.length_map] at l6 ⊢
      have HK6 : Hid (Chg no w w6) := K5.then k6
      have HQ : Hid (∀ W, Chg no w6 W → Calls Try.prog 13 #[.slice a4 X.length c4, .slice a6 X.length c6] W fun e w' => e = .returned (.bool true) ∧ w' = W) := by
        intro W k
        have := bytes_any (l4b.chg (k6.then k) (fun _ _ h => h)) (l6.chg k (fun _ _ h => h)) HB1.out HB1.out
        rwa [decide_eq_true rfl] at this
      obtain ⟨nX, hnX⟩ : ∃ nX, X.length = nX := ⟨_, rfl⟩
      rw [hnX] at HQ ⊢
      clear HR5 K5 l4b l6 k6 hnX
      go_wp2_with fail
      refine (HF w6).mono ?_
      rintro e w7 ⟨rfl, k7⟩
      have HQ7 := HQ.out w7 k7
      have K7 := HK6.out.then k7
      have HM7 := HM1.out w7 K7
      have HK7 : Hid (Chg no w w7) := K7
      clear HQ k7 K7 HM1
      go_wp2_with fail
      refine HQ7.mono ?_
      rintro e w8 ⟨rfl, rfl⟩
      clear HQ7
      go_wp2_with fail
      refine HM7.mono ?_
      rintro e w9 ⟨rfl, k9⟩
      clear HM7
      have K9 := HK7.out.then k9
      clear k9
      go_wp2_with fail
      refine (HP1.out w9 K9).mono ?_
      rintro e w10 ⟨v10, rfl, N10⟩
      have HR10 := HRM.out w10 v10 N10.bks
      obtain ⟨a10, c10, rfl⟩ := N10.shape
      have K10 := K9.then N10.chg
      clear HRM N10 K9
      go_wp2_with fail
      refine HR10.mono ?_
      rintro e w11 ⟨rfl, k11⟩
      have HK11 : Hid (Chg no w w11) := K10.then k11
      clear HR10 K10 k11
      go_wp2_with fail
      refine (HLn w11).mono ?_
      rintro e w12 ⟨rfl, rfl⟩
      go_wp2_with fail
      refine (HLr w12).mono ?_
      rintro e w13 ⟨rfl, rfl⟩
      clear HLn HLr
      go_wp2_with fail
      refine (HS.out _ HK11.out).mono ?_
      rintro e w14 ⟨rfl, k14⟩
      have K14 := HK11.out.then k14
      clear HS k14
      go_wp2_with fail
      refine (HP1.out w14 K14).mono ?_
      rintro e w15 ⟨v15, rfl, N15⟩
      have B15 := N15.bks
      obtain ⟨a15, c15, rfl⟩ := N15.shape
      have K15 := K14.then N15.chg
      clear N15 K14
      go_wp2_with fail
      refine (HP2.out w15 K15).mono ?_
      rintro e w16 ⟨v16, rfl, N16⟩
      have HR16 := HRS.out w16 _ v16 (B15.later N16.chg) N16.bks
      obtain ⟨a16, c16, rfl⟩ := N16.shape
      have K16 := K15.then N16.chg
      clear N16 K15 B15 HRS
      go_wp2_with fail
      refine HR16.mono ?_
      rintro e w17 ⟨rfl, k17⟩
      go_wp2
      go_ret
      exact ⟨rfl, (K16.then k17).below⟩

theorem walk (w : World) (z : Int) (a1 : Option Addr) (l1 c1 : Nat) (xs : List BV) (a2 : Option Addr) (l2 c2 : Nat) (ys : List BV) (w0 : (Lit.int .i64 z).wf = true) (w1 : xs.length = l1 ∧ Bks w (.slice a1 l1 c1) xs) (q1 : l1 ≤ c1 ∧ c1 ≤ maxLen) (w2 : ys.length = l2 ∧ Bks w (.slice a2 l2 c2) ys) (q2 : l2 ≤ c2 ∧ c2 ≤ maxLen) :
    Calls Try.prog 3 #[.int .i64 z, .slice a1 l1 c1, .slice a2 l2 c2] w fun e w' => e = .returned (.bool true) ∧ Below w.heap.size w w' := by
  obtain ⟨rfl, hx⟩ := w1
  obtain ⟨rfl, hy⟩ := w2
  exact late w z a1 c1 xs hx a2 c2 ys hy

theorem own : ownKnob Try.prog.godebug = none := by kernel_rfl
theorem laidOut : laidOutB Try.prog = true := by kernel_rfl

set_option maxRecDepth 100000 in
theorem lifted (os : Os) (started : os.Started) (H : Type) (enc : TypeId × Value → H) :
    ReturnsInHanded {} Try.checked os 3 .any (Rows.bucketWritesSpec.pre6 enc Try.prog Try.f3 Rows.bucketWritesRow.domain false) (Rows.bucketWritesSpec.post enc Try.prog Try.f3 false true false false) := by
  refine returnsInHanded_of_change (C := Try.checked) own started (by kernel_rfl) Try.func3
    (ChangeSpec.witness6 (enc := enc) (C := Try.checked) false ⟨#[], #[.int .i64 0, .slice none 0 0, .slice none 0 0], []⟩ 8 (by kernel_rfl) (by kernel_rfl) (by kernel_rfl) (by kernel_rfl)) ?_
  intro W base args ds gs before hval0 hW hcnd _
  have hval : ∀ (j : Nat) t v, Try.f3.params[j]? = some t → args[j]? = some v → Value.okWide Try.prog W .any base t v := hval0
  have hW' := hW
  obtain ⟨p, q, hA0, hV, rfl, hfz, hnd⟩ := hW
  have hA : DataW.TrodAll enc Try.prog W 0 (fun _ => true) true Try.f3.params.toList args.toList ds p := hA0
  rw [Try.params3] at hA hval
  obtain ⟨v0, vs0, d0, ds0, p0, q0, hargs, rfl, rfl, h0, r0⟩ := trodAll_cons hA
  obtain ⟨v1, vs1, d1, ds1, p1, q1, rfl, rfl, rfl, h1, r1⟩ := trodAll_cons r0
  obtain ⟨v2, vs2, d2, ds2, p2, q2, rfl, rfl, rfl, h2, r2⟩ := trodAll_cons r1
  obtain ⟨rfl, rfl, rfl⟩ := trodAll_nil r2
  obtain rfl : args = #[v0, v1, v2] := by cases args; simp_all
  obtain ⟨rfl, rfl⟩ := trodVars_none hV
  obtain ⟨a0, rfl, rfl, rfl, w0⟩ := open_int Try.underlying3 (hval 0 3 v0 rfl rfl) h0
  obtain ⟨a1, len1, cap1, rfl⟩ := okWide_slice Try.underlying22 (hval 1 22 v1 rfl rfl)
  have k1 := h1
  have lt1 : ∀ x ∈ p1, x.block < W.heap.size := by obtain ⟨m, hm⟩ := k1; exact DataW.trod_lt m _ _ _ hm
  have c1 : len1 ≤ cap1 ∧ cap1 ≤ maxLen := by obtain ⟨m, hm⟩ := k1; exact open_cap Try.underlying22 hm
  obtain ⟨z1, w1⟩ := (by obtain ⟨fuel, hf⟩ := h1; exact open_blocks hf : ∃ z : List BV, z.length = len1 ∧ Bks W (.slice a1 len1 cap1) z)
  obtain ⟨a2, len2, cap2, rfl⟩ := okWide_slice Try.underlying22 (hval 2 22 v2 rfl rfl)
  have k2 := h2
  have lt2 : ∀ x ∈ p2, x.block < W.heap.size := by obtain ⟨m, hm⟩ := k2; exact DataW.trod_lt m _ _ _ hm
  have c2 : len2 ≤ cap2 ∧ cap2 ≤ maxLen := by obtain ⟨m, hm⟩ := k2; exact open_cap Try.underlying22 hm
  obtain ⟨z2, w2⟩ := (by obtain ⟨fuel, hf⟩ := h2; exact open_blocks hf : ∃ z : List BV, z.length = len2 ∧ Bks W (.slice a2 len2 cap2) z)
  clear hA0 hval0
  refine (walk W a0 a1 len1 cap1 z1 a2 len2 cap2 z2 w0 w1 c1 w2 c2).mono fun e W' ⟨he, bel⟩ => ?_
  subst he
  exact ⟨_, rfl, _, _, _, [], _, [], hW', trodAll_mk1 (shut_bool Try.underlying4 _), (trodAll_cons_mk (shut_int Try.underlying3 w0) (trodAll_cons_mk (Below.trod laidOut (by kernel_rfl) (of_decide_eq_true (by kernel_rfl)) k1 bel lt1) (trodAll_cons_mk (Below.trod laidOut (by kernel_rfl) (of_decide_eq_true (by kernel_rfl)) k2 bel lt2) trodAll_mk0))), rfl, bel.frame _, fun h => by cases h⟩

theorem over : Rows.bucketWritesRow.holds Try.pinned (OpenSpec.ofChange Rows.bucketWritesSpec) :=
  OpenClaim.holds_of_wide 3 Try.f3 rfl rfl rfl rfl rfl rfl rfl ⟨rfl, rfl, rfl, rfl, rfl⟩ rfl rfl rfl rfl rfl (by kernel_rfl) Try.func3 (by kernel_rfl)
    (of_decide_eq_true (by kernel_rfl)) (by unfold Func.isWrapper; first | (rw [if_pos (by decide +kernel)]; kernel_rfl) | (rw [if_neg (by decide +kernel)]; exact ⟨rfl, rfl⟩))
    (fun os started H enc _ => lifted os started H enc)

theorem proved : Rows.BucketWritesSaid := over
end Go.Proofs.Ytlcbfdbnjohicaa.bucketWrites
namespace Go.Proofs.Ytlcbfdbnjohicaa
theorem bucketWrites_holds : Rows.BucketWritesSaid := bucketWrites.proved
#print axioms bucketWrites_holds
end Go.Proofs.Ytlcbfdbnjohicaa
