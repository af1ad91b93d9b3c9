/-
  Proved: for every z, all blocks and all bytes the law BucketBack returns true; no condition.
-/
import Derived.Test.YtlcbfdbnjohicaaArg
import Derived.Test.YtlcbfdbnjohicaaRows
namespace Go.Proofs.Ytlcbfdbnjohicaa.bucketBack
open Go.ChangeShapes Go.WideShapes Go.ChangeAt Go.RowKit Go.Proofs.Ytlcbfdbnjohicaa.hp Go.Proofs.Ytlcbfdbnjohicaa.dg Go.Proofs.Ytlcbfdbnjohicaa.st
set_option linter.unusedVariables false

theorem early (w : World) (z : Int) (a1 : Option Addr) (c1 : Nat) (xs : List BV) (hx : Bks w (.slice a1 xs.length c1) xs) (a2 : Option Addr) (n2 c2 : Nat) (hn : 2000 < n2) (hc : n2 ≤ 9223372036854775807) :
    Calls Try.prog 5 #[.int .i64 z, .slice a1 xs.length c1, .slice a2 n2 c2] w fun e w' => e = .returned (.bool true) ∧ Below w.heap.size w w' := by
  have HF := first_any
  have HW : Hid (∀ W, Chg no w W → Calls Try.prog 9 #[.slice a1 xs.length c1] W (FewRes xs.length W)) := fun W k => few_any W _ xs (hx.later k)
  obtain ⟨n1, hn1⟩ : ∃ n1, xs.length = n1 := ⟨_, rfl⟩
  rw [hn1] at HW ⊢
  have hni : (2000 : Int) < n2 := by omega
  have hci : (n2 : Int) ≤ 9223372036854775807 := by omega
  clear hx hn1
  go_enter Try.func5, Try.ntmps5
  go_wp2_with fail
  refine (HF w).mono ?_
  rintro e w1 ⟨rfl, k1⟩
  go_wp2_with fail
  refine (HW.out w1 k1).mono ?_
  rintro e w2 ⟨b, rfl, hb, rfl⟩
  cases b
  · go_wp2_with fail
    refine (HF w2).mono ?_
    rintro e w3 ⟨rfl, k3⟩
    go_wp2
    go_ret
    exact ⟨rfl, (k1.then k3).below⟩
  · go_wp2_with fail
    refine (HF w2).mono ?_
    rintro e w3 ⟨rfl, k3⟩
    go_wp2
    go_ret
    exact ⟨rfl, (k1.then k3).below⟩

set_option maxHeartbeats 8000000 in
theorem late (w : World) (z : Int) (a1 : Option Addr) (c1 : Nat) (xs : List BV) (hx : Bks w (.slice a1 xs.length c1) xs) (a2 : Option Addr) (c2 : Nat) (zs : List Int) (hv : Lies (Old w) w (.slice a2 zs.length c2) (zs.map (Value.int .u8))) (hb : Bytes zs) (hn : zs.length ≤ 2000) :
    Calls Try.prog 5 #[.int .i64 z, .slice a1 xs.length c1, .slice a2 zs.length c2] w fun e w' => e = .returned (.bool true) ∧ Below w.heap.size w w' := by
  have HF := first_any
  have HW : Hid (∀ W, Chg no w W → Calls Try.prog 9 #[.slice a1 xs.length c1] W (FewRes xs.length W)) := fun W k => few_any W _ xs (hx.later k)
  have HX : Hid (∀ W, Chg no w W → Bks W (.slice a1 xs.length c1) xs) := fun W k => hx.later k
  have HD : Hid (∀ W, Chg no w W → Calls Try.prog 20 #[.int .i64 z, .slice a2 zs.length c2] W (DecR 46 (decL z zs) W)) := fun W k => decode_any W z _ zs (hv.chg k (fun _ _ h => h)) hb (by omega)
  have HV : Hid (∀ W, Chg no w W → Lies (Old w) W (.slice a2 zs.length c2) (zs.map (Value.int .u8))) := fun W k => hv.chg k (fun _ _ h => h)
  have HBy : Hid (Bytes zs) := hb
  have HED : Hid ((decL z zs).2 = 0 → encL z (decL z zs).1 = (zs, 0) ∧ mayP (decL z zs).1 ∧ ((decL z zs).1.length : Int) ≤ z) := fun h => enc_dec9 hb h
  have HDB : Hid ((decL z zs).2 ≠ 0 → (decL z zs).1 = []) := fun h => dec_bad h
  have HEB : Hid (Bytes (encL z (abs xs)).1) := enc_bytes (abs_bytes hx)
  obtain ⟨n1, hn1⟩ : ∃ n1, xs.length = n1 := ⟨_, rfl⟩
  have HL1 : Hid (xs.length = n1) := hn1
  obtain ⟨n2, hn2⟩ : ∃ n2, zs.length = n2 := ⟨_, rfl⟩
  rw [hn1] at HW HX ⊢
  rw [hn2] at HD HV hn ⊢
  have hni : (n2 : Int) ≤ 2000 := by omega
  clear hx hn1 hv hb hn2
  go_enter Try.func5, Try.ntmps5
  go_wp2_with fail
  refine (HF w).mono ?_
  rintro e w1 ⟨rfl, k1⟩
  go_wp2_with fail
  refine (HW.out w1 k1).mono ?_
  rintro e w2 ⟨b, rfl, hb, rfl⟩
  clear HW
  cases b
  · go_wp2_with fail
    refine (HF w2).mono ?_
    rintro e w3 ⟨rfl, k3⟩
    go_wp2
    go_ret
    exact ⟨rfl, (k1.then k3).below⟩
  · have hb1 : n1 ≤ 200 := hb rfl
    have HE := encode_any w2 z (.slice a1 n1 c1) xs (HX.out w2 k1) (by rw [HL1.out]; omega)
    have HDE := fun h => dec_enc9 (z := z) (l := abs xs) h
    have HOKE := fun h => enc_ok (z := z) (l := abs xs) h
    have HK1 : Hid (Chg no w w2) := k1
    obtain ⟨⟨X, er⟩, hE⟩ : ∃ R, encL z (abs xs) = R := ⟨_, rfl⟩
    rw [hE] at HE HDE HOKE HEB
    simp only at HDE HOKE HEB
    clear hb k1
    go_wp2_with fail
    refine HE.mono ?_
    rintro e w3 ⟨v3, rfl, l3, k3⟩
    obtain ⟨a3, c3, rfl, _⟩ := l3.slice
    simp only [List.length_map] at l3 ⊢
    have HK3 : Hid (Chg no w w3) := HK1.out.then k3
    clear HE k3
    by_cases her : er = 0
    · have hde := HDE her
      obtain ⟨r1, r2, r3, r4, r5⟩ := HOKE her
      have hXl : X.length = 38 * z.toNat := by
        have e : X = fill (bodyB (abs xs)) (38 * z.toNat) := congrArg Prod.fst r5
        rw [e]
        exact fill_len38 r1 r3 r4
      have hDc := decode_any w3 z (.slice a3 X.length c3) X l3 HEB.out (by rw [hXl]; omega)
      rw [hde] at hDc
      have hlen : lenL z = (X.length : Int) := by
        unfold lenL
        rw [if_pos ⟨r1, r2⟩, hXl]
        omega
      have HLn := fun W => length_any W z
      rw [hlen] at HLn
      obtain ⟨nX, hnX⟩ : ∃ nX, X.length = nX := ⟨_, rfl⟩
      rw [hnX] at hDc HLn ⊢
      subst her
      clear hde r1 r2 r3 r4 r5 hXl hlen hnX HDE HOKE hE l3
      go_wp2_with fail
      refine hDc.mono ?_
      rintro e w4 ⟨v4, ms, D, rfl, hm, N4, hD4⟩
      obtain ⟨a4, c4, rfl⟩ := N4.shape
      simp only at hm ⊢
      have HS := same_any w4 (.slice a1 n1 c1) (.slice a4 ms.length c4) xs ms (HX.out w4 (HK3.out.then N4.chg)) N4.bks (by rw [HL1.out]; omega) (by have e := congrArg List.length hm; rw [abs_len, abs_len, HL1.out] at e; omega)
      rw [hm, show sameL (abs xs) (abs xs) = true from decide_eq_true rfl] at HS
      have HK4 : Hid (Chg no w w4) := HK3.out.then N4.chg
      clear hDc hm N4 hD4 HX
      go_wp2_with fail
      refine HS.mono ?_
      rintro e w5 ⟨rfl, k5⟩
      have HK5 : Hid (Chg no w w5) := HK4.out.then k5
      clear HS k5
      go_wp2_with fail
      refine (HLn w5).mono ?_
      rintro e w6 ⟨rfl, rfl⟩
      clear HLn
      go_wp2_with fail
      refine (HD.out w6 (HK5.out)).mono ?_
      rintro e w7 ⟨v7, ys, E, rfl, hy, N7, hE⟩
      obtain ⟨a7, c7, rfl⟩ := N7.shape
      have K7 : Hid (Chg no w w7) := (HK5.out).then N7.chg
      have hyl := abs_bound hy (dec_len z zs)
      have HM7 : Hid (∀ W, Chg no w7 W → Bks W (.slice a7 ys.length c7) ys) := fun W k => N7.bks.later k
      obtain ⟨n7, hn7⟩ : ∃ n7, ys.length = n7 := ⟨_, rfl⟩
      have HL7 : Hid (ys.length = n7) := hn7
      rw [hn7] at HM7 hyl ⊢
      clear hn7 N7 hE
      obtain ⟨⟨L, g⟩, hLg⟩ : ∃ R, decL z zs = R := ⟨_, rfl⟩
      rw [hLg] at hy ⊢
      simp only at hy ⊢
      by_cases hg : g = 0
      · subst hg
        obtain ⟨q1, q2, q3⟩ := HED.out (by rw [hLg])
        rw [hLg] at q1 q2 q3
        simp only at q1 q2 q3
        have q4 : (n7 : Int) ≤ z := by rw [← HL7.out, ← abs_len, hy]; exact q3
        have HE7 := encode_any w7 z (.slice a7 n7 c7) ys (HM7.out w7 (Chg.refl no w7)) (by rw [HL7.out]; omega)
        rw [hy, q1] at HE7
        have HMY : Hid (∀ W, Chg no w7 W → Calls Try.prog 14 #[.slice a7 n7 c7] W fun e w' => e = .returned (.bool true) ∧ Chg no W w') := by
          intro W k
          have := may_any W _ ys (HM7.out W k) (by rw [HL7.out]; omega)
          rw [hy, show mayL L = true from decide_eq_true q2] at this
          exact this
        clear HM7 HL7 hLg q1 q2 q3 hy HD HED HEB HDB
        go_wp2_with fail
        refine HE7.mono ?_
        rintro e w8 ⟨v8, rfl, l8, k8⟩
        obtain ⟨a8, c8, rfl, _⟩ := l8.slice
        simp only [List.length_map] at l8 ⊢
        have HB8 : Hid (∀ W, Chg no w8 W → Calls Try.prog 13 #[.slice a8 zs.length c8, .slice a2 n2 c2] W fun e w' => e = .returned (.bool true) ∧ w' = W) := by
          intro W k
          have := bytes_any (l8.chg k (fun _ _ h => h)) (HV.out W ((K7.out.then k8).then k)) HBy.out HBy.out
          rwa [decide_eq_true rfl] at this
        have HK8 : Hid (Chg no w7 w8) := k8
        obtain ⟨n8, hn8⟩ : ∃ n8, zs.length = n8 := ⟨_, rfl⟩
        rw [hn8] at HB8 ⊢
        clear HE7 l8 k8 hn8
        go_wp2_with fail
        refine (HF w8).mono ?_
        rintro e w9 ⟨rfl, k9⟩
        have HB9 := HB8.out w9 k9
        have HM9 := HMY.out w9 (HK8.out.then k9)
        have K9 : Hid (Chg no w w9) := (K7.out.then HK8.out).then k9
        clear k9 HB8 HMY
        go_wp2_with fail
        refine HB9.mono ?_
        rintro e w10 ⟨rfl, rfl⟩
        go_wp2_with fail
        refine HM9.mono ?_
        rintro e w11 ⟨rfl, k11⟩
        go_wp2
        go_ret
        exact ⟨rfl, (K9.out.then k11).below⟩
      · have hgb : (g != 0) = true := by simpa using hg
        have h0 : n7 = 0 := by
          have e := HDB.out (by rw [hLg]; exact hg)
          rw [hLg] at e
          simp only at e
          rw [← HL7.out, ← abs_len, hy, e]
          rfl
        subst h0
        clear hy HM7 HL7 hLg HD HED HEB HDB
        go_wp2_with fail
        refine (HF w7).mono ?_
        rintro e w8 ⟨rfl, k8⟩
        go_wp2
        go_ret
        exact ⟨rfl, (K7.out.then k8).below⟩
    · have hne : (er == 0) = false := by simpa using her
      clear HDE HOKE hE l3 her HX
      go_wp2_with fail
      refine (HD.out w3 (HK3.out)).mono ?_
      rintro e w7 ⟨v7, ys, E, rfl, hy, N7, hE⟩
      obtain ⟨a7, c7, rfl⟩ := N7.shape
      have K7 : Hid (Chg no w w7) := (HK3.out).then N7.chg
      have hyl := abs_bound hy (dec_len z zs)
      have HM7 : Hid (∀ W, Chg no w7 W → Bks W (.slice a7 ys.length c7) ys) := fun W k => N7.bks.later k
      obtain ⟨n7, hn7⟩ : ∃ n7, ys.length = n7 := ⟨_, rfl⟩
      have HL7 : Hid (ys.length = n7) := hn7
      rw [hn7] at HM7 hyl ⊢
      clear hn7 N7 hE
      obtain ⟨⟨L, g⟩, hLg⟩ : ∃ R, decL z zs = R := ⟨_, rfl⟩
      rw [hLg] at hy ⊢
      simp only at hy ⊢
      by_cases hg : g = 0
      · subst hg
        obtain ⟨q1, q2, q3⟩ := HED.out (by rw [hLg])
        rw [hLg] at q1 q2 q3
        simp only at q1 q2 q3
        have q4 : (n7 : Int) ≤ z := by rw [← HL7.out, ← abs_len, hy]; exact q3
        have HE7 := encode_any w7 z (.slice a7 n7 c7) ys (HM7.out w7 (Chg.refl no w7)) (by rw [HL7.out]; omega)
        rw [hy, q1] at HE7
        have HMY : Hid (∀ W, Chg no w7 W → Calls Try.prog 14 #[.slice a7 n7 c7] W fun e w' => e = .returned (.bool true) ∧ Chg no W w') := by
          intro W k
          have := may_any W _ ys (HM7.out W k) (by rw [HL7.out]; omega)
          rw [hy, show mayL L = true from decide_eq_true q2] at this
          exact this
        clear HM7 HL7 hLg q1 q2 q3 hy HD HED HEB HDB
        go_wp2_with fail
        refine HE7.mono ?_
        rintro e w8 ⟨v8, rfl, l8, k8⟩
        obtain ⟨a8, c8, rfl, _⟩ := l8.slice
        simp only [List.length_map] at l8 ⊢
        have HB8 : Hid (∀ W, Chg no w8 W → Calls Try.prog 13 #[.slice a8 zs.length c8, .slice a2 n2 c2] W fun e w' => e = .returned (.bool true) ∧ w' = W) := by
          intro W k
          have := bytes_any (l8.chg k (fun _ _ h => h)) (HV.out W ((K7.out.then k8).then k)) HBy.out HBy.out
          rwa [decide_eq_true rfl] at this
        have HK8 : Hid (Chg no w7 w8) := k8
        obtain ⟨n8, hn8⟩ : ∃ n8, zs.length = n8 := ⟨_, rfl⟩
        rw [hn8] at HB8 ⊢
        clear HE7 l8 k8 hn8
        go_wp2_with fail
        refine (HF w8).mono ?_
        rintro e w9 ⟨rfl, k9⟩
        have HB9 := HB8.out w9 k9
        have HM9 := HMY.out w9 (HK8.out.then k9)
        have K9 : Hid (Chg no w w9) := (K7.out.then HK8.out).then k9
        clear k9 HB8 HMY
        go_wp2_with fail
        refine HB9.mono ?_
        rintro e w10 ⟨rfl, rfl⟩
        go_wp2_with fail
        refine HM9.mono ?_
        rintro e w11 ⟨rfl, k11⟩
        go_wp2
        go_ret
        exact ⟨rfl, (K9.out.then k11).below⟩
      · have hgb : (g != 0) = true := by simpa using hg
        have h0 : n7 = 0 := by
          have e := HDB.out (by rw [hLg]; exact hg)
          rw [hLg] at e
          simp only at e
          rw [← HL7.out, ← abs_len, hy, e]
          rfl
        subst h0
        clear hy HM7 HL7 hLg HD HED HEB HDB
        go_wp2_with fail
        refine (HF w7).mono ?_
        rintro e w8 ⟨rfl, k8⟩
        go_wp2
        go_ret
        exact ⟨rfl, (K7.out.then k8).below⟩

theorem walk (w : World) (z : Int) (a1 : Option Addr) (l1 c1 : Nat) (xs : List BV) (a2 : Option Addr) (l2 c2 : Nat) (zs : List Int) (w0 : (Lit.int .i64 z).wf = true) (w1 : xs.length = l1 ∧ Bks w (.slice a1 l1 c1) xs) (q1 : l1 ≤ c1 ∧ c1 ≤ maxLen) (w2 : Lies (Old w) w (.slice a2 l2 c2) (zs.map (Value.int .u8)) ∧ Bytes zs) (q2 : l2 ≤ c2 ∧ c2 ≤ maxLen) :
    Calls Try.prog 5 #[.int .i64 z, .slice a1 l1 c1, .slice a2 l2 c2] w fun e w' => e = .returned (.bool true) ∧ Below w.heap.size w w' := by
  have hm : maxLen ≤ 9223372036854775807 := by unfold maxLen; omega
  obtain ⟨rfl, hx⟩ := w1
  by_cases hh : 2000 < l2
  · exact early w z a1 c1 xs hx a2 l2 c2 hh (by omega)
  · obtain ⟨x0, y0, h0, _⟩ := w2.1.slice
    rw [List.length_map] at h0
    cases h0
    exact late w z a1 c1 xs hx a2 c2 zs w2.1 w2.2 (by omega)

theorem own : ownKnob Try.prog.godebug = none := by kernel_rfl
theorem laidOut : laidOutB Try.prog = true := by kernel_rfl

set_option maxRecDepth 100000 in
theorem lifted (os : Os) (started : os.Started) (H : Type) (enc : TypeId × Value → H) :
    ReturnsInHanded {} Try.checked os 5 .any (Rows.bucketBackSpec.pre6 enc Try.prog Try.f5 Rows.bucketBackRow.domain false) (Rows.bucketBackSpec.post enc Try.prog Try.f5 false true false false) := by
  refine returnsInHanded_of_change (C := Try.checked) own started (by kernel_rfl) Try.func5
    (ChangeSpec.witness6 (enc := enc) (C := Try.checked) false ⟨#[], #[.int .i64 0, .slice none 0 0, .slice none 0 0], []⟩ 8 (by kernel_rfl) (by kernel_rfl) (by kernel_rfl) (by kernel_rfl)) ?_
  intro W base args ds gs before hval0 hW hcnd _
  have hval : ∀ (j : Nat) t v, Try.f5.params[j]? = some t → args[j]? = some v → Value.okWide Try.prog W .any base t v := hval0
  have hW' := hW
  obtain ⟨p, q, hA0, hV, rfl, hfz, hnd⟩ := hW
  have hA : DataW.TrodAll enc Try.prog W 0 (fun _ => true) true Try.f5.params.toList args.toList ds p := hA0
  rw [Try.params5] at hA hval
  obtain ⟨v0, vs0, d0, ds0, p0, q0, hargs, rfl, rfl, h0, r0⟩ := trodAll_cons hA
  obtain ⟨v1, vs1, d1, ds1, p1, q1, rfl, rfl, rfl, h1, r1⟩ := trodAll_cons r0
  obtain ⟨v2, vs2, d2, ds2, p2, q2, rfl, rfl, rfl, h2, r2⟩ := trodAll_cons r1
  obtain ⟨rfl, rfl, rfl⟩ := trodAll_nil r2
  obtain rfl : args = #[v0, v1, v2] := by cases args; simp_all
  obtain ⟨rfl, rfl⟩ := trodVars_none hV
  obtain ⟨a0, rfl, rfl, rfl, w0⟩ := open_int Try.underlying3 (hval 0 3 v0 rfl rfl) h0
  obtain ⟨a1, len1, cap1, rfl⟩ := okWide_slice Try.underlying22 (hval 1 22 v1 rfl rfl)
  have k1 := h1
  have lt1 : ∀ x ∈ p1, x.block < W.heap.size := by obtain ⟨m, hm⟩ := k1; exact DataW.trod_lt m _ _ _ hm
  have c1 : len1 ≤ cap1 ∧ cap1 ≤ maxLen := by obtain ⟨m, hm⟩ := k1; exact open_cap Try.underlying22 hm
  obtain ⟨z1, w1⟩ := (by obtain ⟨fuel, hf⟩ := h1; exact open_blocks hf : ∃ z : List BV, z.length = len1 ∧ Bks W (.slice a1 len1 cap1) z)
  obtain ⟨a2, len2, cap2, rfl⟩ := okWide_slice Try.underlying25 (hval 2 25 v2 rfl rfl)
  have k2 := h2
  have lt2 : ∀ x ∈ p2, x.block < W.heap.size := by obtain ⟨m, hm⟩ := k2; exact DataW.trod_lt m _ _ _ hm
  have c2 : len2 ≤ cap2 ∧ cap2 ≤ maxLen := by obtain ⟨m, hm⟩ := k2; exact open_cap Try.underlying25 hm
  obtain ⟨z2, w2⟩ := (by obtain ⟨fuel, hf⟩ := h2; exact open_bytes hf : ∃ z : List Int, Lies (Old W) W (.slice a2 len2 cap2) (z.map (Value.int .u8)) ∧ Bytes z)
  clear hA0 hval0
  refine (walk W a0 a1 len1 cap1 z1 a2 len2 cap2 z2 w0 w1 c1 w2 c2).mono fun e W' ⟨he, bel⟩ => ?_
  subst he
  exact ⟨_, rfl, _, _, _, [], _, [], hW', trodAll_mk1 (shut_bool Try.underlying4 _), (trodAll_cons_mk (shut_int Try.underlying3 w0) (trodAll_cons_mk (Below.trod laidOut (by kernel_rfl) (of_decide_eq_true (by kernel_rfl)) k1 bel lt1) (trodAll_cons_mk (Below.trod laidOut (by kernel_rfl) (of_decide_eq_true (by kernel_rfl)) k2 bel lt2) trodAll_mk0))), rfl, bel.frame _, fun h => by cases h⟩

theorem over : Rows.bucketBackRow.holds Try.pinned (OpenSpec.ofChange Rows.bucketBackSpec) :=
  OpenClaim.holds_of_wide 5 Try.f5 rfl rfl rfl rfl rfl rfl rfl ⟨rfl, rfl, rfl, rfl, rfl⟩ rfl rfl rfl rfl rfl (by kernel_rfl) Try.func5 (by kernel_rfl)
    (of_decide_eq_true (by kernel_rfl)) (by unfold Func.isWrapper; first | (rw [if_pos (by decide +kernel)]; kernel_rfl) | (rw [if_neg (by decide +kernel)]; exact ⟨rfl, rfl⟩))
    (fun os started H enc _ => lifted os started H enc)

theorem proved : Rows.BucketBackSaid := over
end Go.Proofs.Ytlcbfdbnjohicaa.bucketBack
namespace Go.Proofs.Ytlcbfdbnjohicaa
theorem bucketBack_holds : Rows.BucketBackSaid := bucketBack.proved
#print axioms bucketBack_holds
end Go.Proofs.Ytlcbfdbnjohicaa
