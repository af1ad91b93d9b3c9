/-
  Proved: for all places and all operations the law PosBack returns true; no condition.
-/
import Derived.Test.YtocbmjkbbbmncaaBakS
namespace Go.Proofs.Ytocbmjkbbbmncaa.posBack
open Go.ChangeShapes Go.WideShapes Go.ChangeAt Go.RowKit Go.Proofs.Ytocbmjkbbbmncaa.hp Go.Proofs.Ytocbmjkbbbmncaa.st
set_option linter.unusedVariables false

set_option maxHeartbeats 2000000 in
theorem early (w : World) (a0 : Option Addr) (l0 c0 : Nat) (v1 : Value) (hh : 100 < l0) :
    Calls Try.prog 4 #[.slice a0 l0 c0, v1] w fun e w' => e = .returned (.bool true) ∧ Below w.heap.size w w' := by
  have h1 : (100 : Int) < l0 := by omega
  clear hh
  go_enter Try.func4, Try.ntmps4
  go_wp2_with fail
  refine (first_any _).mono ?_
  rintro e w1 ⟨rfl, k1⟩
  go_wp2_with fail
  refine (first_any _).mono ?_
  rintro e w3 ⟨rfl, k3⟩
  go_wp2
  go_ret
  exact ⟨rfl, (k1.then k3).below⟩

set_option maxRecDepth 100000 in
set_option maxHeartbeats 8000000 in
theorem late (w : World) (a0 : Option Addr) (c0 : Nat) (ps : List (Int × Int)) (a1 : Option Addr) (m c1 : Nat) (O : Nat → OpA) (h0 : Lie (Old w) w (.slice a0 ps.length c0) ps.length (ps.flatMap f2)) (hp : ps.length ≤ 100) (hO : OpsAt w a1 m O) (k1 : m ≤ c1) (k2 : c1 ≤ maxLen) :
    Calls Try.prog 4 #[.slice a0 ps.length c0, .slice a1 m c1] w fun e w' => e = .returned (.bool true) ∧ Below w.heap.size w w' := by
  have HNew : Hid (∀ W, Chg no w W → Calls Try.prog 9 #[.slice a0 ps.length c0] W fun e w' => ∃ r, e = .returned r ∧ Made 63 33 W ps r w') := fun W k => new_any W _ ps (h0.same k) (by omega)
  have HO : Hid (OpsAt w a1 m O) := hO
  obtain ⟨n, hn⟩ : ∃ n, ps.length = n := ⟨_, rfl⟩
  have HN : Hid (ps.length = n) := hn
  rw [hn] at hp HNew ⊢
  have i1 : (n : Int) ≤ 100 := by omega
  clear h0 hn hO
  go_enter Try.func4, Try.ntmps4
  go_wp2_with fail
  refine (first_any _).mono ?_
  rintro e w1 ⟨rfl, k1'⟩
  have HF := few_any w1 a1 m c1 O (OpsAt.same HO.out k1') k1 k2
  go_wp2_with fail
  refine HF.mono ?_
  rintro e w1' ⟨b, rfl, hfew, rfl⟩
  cases b
  case false =>
    clear HF hfew
    go_wp2_with fail
    refine (first_any _).mono ?_
    rintro e wz ⟨rfl, kz⟩
    go_wp2
    go_ret
    exact ⟨rfl, (k1'.then kz).below⟩
  obtain ⟨hf1, _⟩ := hfew rfl
  have i3 : (m : Int) ≤ 200 := by omega
  obtain ⟨H, hH⟩ : ∃ H, m / 2 = H := ⟨_, rfl⟩
  have hHi : (m : Int) / 2 = (H : Int) := by omega
  have hHt : Int.tdiv (m : Int) 2 = (H : Int) := by rw [Int.tdiv_eq_ediv_of_nonneg (by omega)]; exact hHi
  have hHm : H ≤ m := by omega
  clear hfew HF hH
  go_wp2_with fail
  refine (HNew.out w1' k1').mono ?_
  rintro e w2 ⟨r2, rfl, p, pv, cv, rfl, M2, k2', n2⟩
  have HK2 : Hid (Chg no w w2) := k1'.then k2'
  have HM2 : Hid (Mp 63 33 p pv cv ps (List.replicate ps.length false) w2) := M2
  have HFn : Hid (∀ k, Ft p pv cv k → w.heap.size ≤ k) := fun k hk => by have := n2 k hk; have := k1'.size; omega
  clear HNew M2 k2' n2 k1'
  go_wp2_with fail
  go_loopw [6] (fun i wr => ∃ (j : Nat) (qs : List (Int × Int)) (ch : List Bool), j ≤ H ∧ i = .int .i64 (j : Int) ∧ qs.length = n ∧ Mp 63 33 p pv cv qs ch wr ∧ Chg no w wr) (fun i _ => H - (intOf i).toNat)
  case atStart => exact ⟨0, ps, _, by omega, rfl, HN.out, HM2.out, HK2.out⟩
  case round =>
    clear HM2 HK2
    obtain ⟨j, qs, ch, hj, rfl, hq, hM, hC⟩ := hrel
    by_cases hjn : j < H
    · have hji : (j : Int) < H := by omega
      have hjm : (j : Int) < m := by omega
      obtain ⟨x, rfl, e0, e1, e2, e3, e4, _⟩ := OpsAt.at HO.out hC j (by omega)
      obtain ⟨d, hd⟩ : ∃ d, (O j).d = d := ⟨_, rfl⟩
      obtain ⟨l, hl⟩ : ∃ l, (O j).l = l := ⟨_, rfl⟩
      obtain ⟨t, ht⟩ : ∃ t, (O j).t = t := ⟨_, rfl⟩
      rw [hd] at e1
      rw [hl] at e2
      rw [ht] at e3
      have HS : Hid (Calls Try.prog 12 #[pt p, .int .i64 d, nv l t] wr.drew fun e w' => ∃ b qs' ch', e = .returned (.bool b) ∧ qs'.length = n ∧ Mp 63 33 p pv cv qs' ch' w' ∧ Chg no w w') := by
        have M6 := hM.same (Chg.refl no wr).drew
        refine (set_any M6 d l t).mono ?_
        rintro e w' ⟨rfl, M, kk⟩
        exact ⟨_, _, _, rfl, by rw [setP_length]; exact hq, M, new_chg hC.drew kk HFn.out⟩
      clear hM hC hd hl ht e0 e4 hq
      go_wp2_with fail
      go_region_with (go_at_call 12; refine HS.out.mono ?_; rintro e w6 ⟨b6, qs6, ch6, rfl, hq6, M6, K6⟩)
      all_goals go_wp2
      all_goals go_roundw
      all_goals first
        | exact ⟨j + 1, qs6, ch6, by omega, by go_num, hq6, M6, K6⟩
        | (simp [intOf]; omega)
    · obtain rfl : j = H := by omega
      have hji : (j : Int) ≤ j := by omega
      have HS := settle_any hM
      have HC : Hid (Chg no w wr) := hC
      clear hM hC
      go_wp2_with fail
      refine HS.mono ?_
      rintro e w5 ⟨rfl, M5, k5⟩
      have HC5 : Hid (Chg no w w5) := new_chg HC.out k5 HFn.out
      have HM5 : Hid _ := M5
      have HA5 := all_any M5 (by omega)
      clear HS k5 HC
      go_wp2_with fail
      refine HA5.mono ?_
      rintro e w6 ⟨v6, rfl, N6⟩
      have HN6 := new_any w6 v6 qs N6.lie (by omega)
      obtain ⟨x6, c6, rfl⟩ := N6.shape
      have k6 := N6.2
      rw [hq] at HN6 ⊢
      clear HA5 N6 M5
      go_wp2_with fail
      refine HN6.mono ?_
      rintro e w7 ⟨r7, rfl, p', pv', cv', rfl, M7, k7, n7⟩
      have HD7 : Hid (Duo 63 33 63 33 w p pv cv qs (List.replicate qs.length false) p' pv' cv' qs (List.replicate qs.length false) w7) := by
        have s1 := (Chg.size HC5.out)
        have s2 := k6.size
        refine ⟨Mp.same HM5.out (k6.then k7), M7, fun k hk e => ?_, HFn.out, fun k hk => ?_, (Chg.then HC5.out k6).then k7⟩
        · have := Mp.lt HM5.out k hk
          have := n7 k e
          omega
        · have := n7 k hk
          omega
      have HC7 := changes_any (Duo.a HD7.out) (by omega)
      rw [told_none] at HC7
      clear HN6 M7 k7 n7 k6 HM5 HC5
      go_wp2_with fail
      refine HC7.mono ?_
      rintro e w8 ⟨v8, rfl, N8⟩
      have HD8 : Hid _ := Duo.same HD7.out N8.2
      obtain ⟨x8, c8, rfl⟩ := N8.shape
      simp only [List.length_nil]
      clear HC7 N8 HD7
      go_wp2_with fail
      go_loopw [8] (fun i wr => ∃ (k : Nat) (rs : List (Int × Int)) (ch : List Bool), k ≤ m ∧ i = .int .i64 (k : Int) ∧ Apart qs rs ch ∧ Duo 63 33 63 33 w p pv cv rs ch p' pv' cv' qs (List.replicate qs.length false) wr) (fun i _ => m - (intOf i).toNat)
      case atStart => exact ⟨j, qs, _, by omega, by first | rfl | go_num, Apart.start qs _, HD8.out⟩
      case round =>
        clear HD8
        obtain ⟨k, rs, ch2, hk, rfl, hap, hD⟩ := hrel
        by_cases hkn : k < m
        · have hki : (k : Int) < m := by omega
          obtain ⟨x, rfl, e0, e1, e2, e3, e4, _⟩ := OpsAt.at HO.out hD.chg k hkn
          obtain ⟨d, hd⟩ : ∃ d, (O k).d = d := ⟨_, rfl⟩
          obtain ⟨l, hl⟩ : ∃ l, (O k).l = l := ⟨_, rfl⟩
          obtain ⟨t, ht⟩ : ∃ t, (O k).t = t := ⟨_, rfl⟩
          rw [hd] at e1
          rw [hl] at e2
          rw [ht] at e3
          have HS : Hid (Calls Try.prog 12 #[pt p, .int .i64 d, nv l t] wr.drew fun e w' => ∃ b rs' ch', e = .returned (.bool b) ∧ Apart qs rs' ch' ∧ Duo 63 33 63 33 w p pv cv rs' ch' p' pv' cv' qs (List.replicate qs.length false) w') := by
            have D6 := hD.same (Chg.refl no wr).drew
            refine (set_any D6.a d l t).mono ?_
            rintro e w' ⟨rfl, M, kk⟩
            exact ⟨_, _, _, rfl, hap.set D6.a.len d l t, D6.left M kk⟩
          clear hD hap hd hl ht e0 e4
          go_wp2_with fail
          go_region_with (go_at_call 12; refine HS.out.mono ?_; rintro e w6 ⟨b6, rs6, ch6, rfl, hap6, D6⟩)
          all_goals go_wp2
          all_goals go_roundw
          all_goals first
            | exact ⟨k + 1, rs6, ch6, by omega, by go_num, hap6, D6⟩
            | (simp [intOf]; omega)
        · obtain rfl : k = m := by omega
          have hki : (k : Int) ≤ k := by omega
          have hrl : rs.length = n := by rw [hap.len]; exact hq
          have HC := changes_any hD.a (by omega)
          have HD : Hid _ := hD
          have HAP : Hid (Apart qs rs ch2) := hap
          clear hD hap
          go_wp2_with fail
          refine HC.mono ?_
          rintro e w9 ⟨v9, rfl, N9⟩
          have HD9 : Hid _ := Duo.same HD.out N9.2
          have HL9 : Hid (∀ W, Chg no w9 W → Lie (fun b => wr.heap.size ≤ b) W v9 (told rs ch2 rs.length).length ((told rs ch2 rs.length).flatMap f3)) := fun W kW => (N9.lie.same kW).mono (fun b hb => hb.1)
          have HLT : Hid (∀ b, Ft p' pv' cv' b → b < wr.heap.size) := fun b hb => (Duo.b HD.out).lt b hb
          have HCell : Hid (∀ i x y, (told rs ch2 rs.length)[i]? = some x → (told rs ch2 rs.length)[i + 1]? = some y → ∃ g c, v9 = .slice (some ⟨g, 0, none⟩) (told rs ch2 rs.length).length c ∧ w9.cell? ⟨g, i * 3, none⟩ = some (.int .i64 x.1) ∧ w9.cell? ⟨g, (i + 1) * 3, none⟩ = some (.int .i64 y.1) ∧ x.1 < y.1) := by
            intro i x y hx hy
            obtain ⟨g, c, e1, _, q0, _⟩ := cell3 N9 (i := i) (d := x.1) (l := x.2.1) (t := x.2.2) hx
            obtain ⟨g', c', e1', _, q0', _⟩ := cell3 N9 (i := i + 1) (d := y.1) (l := y.2.1) (t := y.2.2) hy
            rw [e1] at e1'
            cases e1'
            exact ⟨g, c, e1, q0, q0', told_less hx hy⟩
          obtain ⟨x9, c9, hv9⟩ := N9.shape
          have hml : (told rs ch2 rs.length).length ≤ n := by rw [← hrl]; exact told_len _ _ _
          obtain ⟨TT, hTT⟩ : ∃ TT, told rs ch2 rs.length = TT := ⟨_, rfl⟩
          have HTT : Hid (told rs ch2 rs.length = TT) := hTT
          rw [hTT] at HL9 HCell hv9 hml
          obtain ⟨M, hM⟩ : ∃ M, TT.length = M := ⟨_, rfl⟩
          have HMM : Hid (TT.length = M) := hM
          rw [hM] at HL9 HCell hv9 hml
          subst hv9
          have hmi : (M : Int) ≤ n := by omega
          clear HC N9 hTT hM HD
          go_wp2_with fail
          go_loopw [10] (fun i wr => ∃ q : Nat, 1 ≤ q ∧ (q ≤ M ∨ q = 1) ∧ i = .int .i64 (q : Int) ∧ Chg no w9 wr) (fun i _ => M - (intOf i).toNat)
          case atStart => exact ⟨1, by omega, by omega, rfl, Chg.refl no w9⟩
          case round =>
            obtain ⟨q, hq1, hq2, rfl, hC⟩ := hrel
            have HC : Hid (Chg no w9 _) := hC
            by_cases hqn : q < M
            · have hqi : (q : Int) < M := by omega
              have hq1i : (1 : Int) ≤ q := by omega
              obtain ⟨r, hr⟩ : ∃ r, q = r + 1 := ⟨q - 1, by omega⟩
              obtain ⟨x, hx⟩ : ∃ x, TT[r]? = some x := ⟨_, List.getElem?_eq_getElem (by rw [HMM.out]; omega)⟩
              obtain ⟨y, hy⟩ : ∃ y, TT[r + 1]? = some y := ⟨_, List.getElem?_eq_getElem (by rw [HMM.out]; omega)⟩
              obtain ⟨g, c, hv, q0, q1, hxy⟩ := HCell.out r x y hx hy
              cases hv
              have z0 := hC.cell q0 id
              have z1 := hC.cell q1 id
              rw [← hr] at z1
              obtain ⟨X, hX⟩ : ∃ X, x.1 = X := ⟨_, rfl⟩
              obtain ⟨Y, hY⟩ : ∃ Y, y.1 = Y := ⟨_, rfl⟩
              rw [hX] at z0 hxy
              rw [hY] at z1 hxy
              have hrn : ((q : Int) - 1).toNat = r := by omega
              have hg1 : (0 : Int) ≤ (q : Int) - 1 := by omega
              have hg2 : (q : Int) - 1 < M := by omega
              have hrM : r < M := by omega
              clear hx hy q0 q1 hX hY hC hr
              go_wp2_with fail
              go_quiet (fail)
              go_wp2
              go_roundw
              case rel => exact ⟨q + 1, by omega, by omega, by go_num, by first | exact HC.out.drewN _ | exact HC.out.drew | exact HC.out⟩
              case measure => simp [intOf]; omega
            · have hqi : (M : Int) ≤ q := by omega
              have D9 := Duo.same HD9.out hC
              have HL10 : Hid (∀ W, Chg no wr W → Lie (fun b => ¬ Ft p' pv' cv' b) W (.slice x9 M c9) M (TT.flatMap f3)) := fun W kW => (HL9.out W (hC.then kW)).mono (fun b hb e => by have := HLT.out b e; omega)
              have HMay : Hid (mayAll qs.length TT = true ∧ applyP qs TT = rs) := by
                rw [← HTT.out]
                exact ⟨Apart.may HAP.out, Apart.back HAP.out⟩
              have HD10 : Hid _ := D9
              clear D9 hC HC HL9 HLT HCell HD9
              go_wp2_with fail
              refine (first_any _).mono ?_
              rintro e w10 ⟨rfl, k10⟩
              have D10 := Duo.same HD10.out k10
              have HA : Hid (Calls Try.prog 17 #[pt p', .slice x9 M c9] w10 fun e w' => e = .returned (.bool true) ∧ Duo 63 33 63 33 w p pv cv rs ch2 p' pv' cv' rs (List.replicate qs.length false) w') := by
                refine (apply_any D10.b (.slice x9 M c9) TT (by rw [HMM.out]; exact HL10.out _ k10) (fun b hb => hb) (by rw [HMM.out]; omega)).mono ?_
                rintro e w' ⟨rfl, M', kk⟩
                rw [HMay.out.2] at M'
                exact ⟨by rw [HMay.out.1], D10.right M' kk⟩
              clear D10 HD10 HL10 k10
              go_wp2_with fail
              refine HA.out.mono ?_
              rintro e w13 ⟨rfl, D13⟩
              have HD13 : Hid _ := D13
              have HA13 := all_any (Duo.b HD13.out) (by omega)
              clear HA D13
              go_wp2_with fail
              refine HA13.mono ?_
              rintro e w14 ⟨v14, rfl, N14⟩
              have HD14 : Hid _ := Duo.same HD13.out N14.2
              have HP14 := lplaces_any w14 v14 rs N14.lie (by omega)
              obtain ⟨x14, c14, rfl⟩ := N14.shape
              rw [hrl] at HP14 ⊢
              clear HA13 N14 HD13
              go_wp2_with fail
              refine HP14.mono ?_
              rintro e w15 ⟨v15, rfl, N15⟩
              have HD15 : Hid _ := Duo.same HD14.out N15.2
              have HA15 := all_any (Duo.a HD15.out) (by omega)
              have HN15 : Hid (∀ W, Chg no w15 W → Lie (fun _ => True) W v15 rs.length (rs.flatMap f2)) := fun W k => (N15.lie.same k).mono (fun _ _ => trivial)
              obtain ⟨x15, c15, rfl⟩ := N15.shape
              rw [hrl] at HN15 ⊢
              clear HP14 HD14 N15
              go_wp2_with fail
              refine HA15.mono ?_
              rintro e w16 ⟨v16, rfl, N16⟩
              have HD16 : Hid _ := Duo.same HD15.out N16.2
              have HP16 := lplaces_any w16 v16 rs N16.lie (by omega)
              obtain ⟨x16, c16, rfl⟩ := N16.shape
              have k16 := N16.2
              rw [hrl] at HP16 ⊢
              clear HA15 HD15 N16
              go_wp2_with fail
              refine HP16.mono ?_
              rintro e w17 ⟨v17, rfl, N17⟩
              have HD17 : Hid _ := Duo.same HD16.out N17.2
              have HS17 := places_same (J := fun _ => True) (K := fun _ => True) w17 (.slice x15 n c15) v17 rs (by rw [hrl]; exact HN15.out _ (k16.then N17.2)) (N17.lie.mono (fun _ _ => trivial)) (by omega)
              obtain ⟨x17, c17, rfl⟩ := N17.shape
              rw [hrl] at HS17 ⊢
              clear HP16 HD16 N17 k16 HN15
              go_wp2_with fail
              refine HS17.mono ?_
              rintro e w18 ⟨rfl, k18⟩
              have HD18 : Hid _ := Duo.same HD17.out k18
              have HC18 := changes_any (Duo.b HD18.out) (by omega)
              rw [told_none] at HC18
              clear HS17 HD17 k18
              go_wp2_with fail
              refine HC18.mono ?_
              rintro e w19 ⟨v19, rfl, N19⟩
              obtain ⟨x19, c19, rfl⟩ := N19.shape
              have HK19 : Hid (Chg no w w19) := (Duo.chg HD18.out).then N19.2
              simp only [List.length_nil]
              clear HC18 HD18 N19
              go_wp2
              go_ret
              exact ⟨rfl, Chg.below HK19.out⟩

theorem walk (w : World) (a0 : Option Addr) (l0 c0 : Nat) (ps : List (Int × Int)) (a1 : Option Addr) (l1 c1 : Nat) (O : Nat → OpA) (w0 : ps.length = l0 ∧ Lie (Old w) w (.slice a0 l0 c0) ps.length (ps.flatMap f2)) (k0 : l0 ≤ c0 ∧ c0 ≤ maxLen) (w1 : OpsAt w a1 l1 O) (k1 : l1 ≤ c1 ∧ c1 ≤ maxLen) :
    Calls Try.prog 4 #[.slice a0 l0 c0, .slice a1 l1 c1] w fun e w' => e = .returned (.bool true) ∧ Below w.heap.size w w' := by
  by_cases hh : 100 < l0
  · exact early w a0 l0 c0 _ hh
  · obtain ⟨rfl, h0⟩ := w0
    exact late w a0 c0 ps a1 l1 c1 O h0 (by omega) w1 k1.1 k1.2

theorem own : ownKnob Try.prog.godebug = none := by kernel_rfl
theorem laidOut : laidOutB Try.prog = true := by kernel_rfl

set_option maxRecDepth 100000 in
theorem lifted (os : Os) (started : os.Started) (H : Type) (enc : TypeId × Value → H) :
    ReturnsInHanded {} Try.checked os 4 .any (Rows.posBackSpec.pre6 enc Try.prog Try.f4 Rows.posBackRow.domain false) (Rows.posBackSpec.post enc Try.prog Try.f4 false true false false) := by
  refine returnsInHanded_of_change (C := Try.checked) own started (by kernel_rfl) Try.func4
    (ChangeSpec.witness6 (enc := enc) (C := Try.checked) false ⟨#[], #[.slice none 0 0, .slice none 0 0], []⟩ 8 (by kernel_rfl) (by kernel_rfl) (by kernel_rfl) (by kernel_rfl)) ?_
  intro W base args ds gs before hval0 hW hcnd _
  have hval : ∀ (j : Nat) t v, Try.f4.params[j]? = some t → args[j]? = some v → Value.okWide Try.prog W .any base t v := hval0
  have hW' := hW
  obtain ⟨p, q, hA0, hV, rfl, hfz, hnd⟩ := hW
  have hA : DataW.TrodAll enc Try.prog W 0 (fun _ => true) true Try.f4.params.toList args.toList ds p := hA0
  rw [Try.params4] at hA hval
  obtain ⟨v0, vs0, d0, ds0, p0, q0, hargs, rfl, rfl, h0, r0⟩ := trodAll_cons hA
  obtain ⟨v1, vs1, d1, ds1, p1, q1, rfl, rfl, rfl, h1, r1⟩ := trodAll_cons r0
  obtain ⟨rfl, rfl, rfl⟩ := trodAll_nil r1
  obtain rfl : args = #[v0, v1] := by cases args; simp_all
  obtain ⟨rfl, rfl⟩ := trodVars_none hV
  obtain ⟨a0, len0, cap0, rfl⟩ := okWide_slice Try.underlying22 (hval 0 22 v0 rfl rfl)
  have k0 := h0
  have lt0 : ∀ x ∈ p0, x.block < W.heap.size := by obtain ⟨m, hm⟩ := k0; exact DataW.trod_lt m _ _ _ hm
  have c0 : len0 ≤ cap0 ∧ cap0 ≤ maxLen := by obtain ⟨m, hm⟩ := k0; exact open_cap Try.underlying22 hm
  obtain ⟨z0, w0⟩ := (by obtain ⟨fuel, hf⟩ := h0; exact open_places hf : ∃ z : List (Int × Int), z.length = len0 ∧ Lie (Old W) W (.slice a0 len0 cap0) z.length (z.flatMap f2))
  obtain ⟨a1, len1, cap1, rfl⟩ := okWide_slice Try.underlying23 (hval 1 23 v1 rfl rfl)
  have k1 := h1
  have lt1 : ∀ x ∈ p1, x.block < W.heap.size := by obtain ⟨m, hm⟩ := k1; exact DataW.trod_lt m _ _ _ hm
  have c1 : len1 ≤ cap1 ∧ cap1 ≤ maxLen := by obtain ⟨m, hm⟩ := k1; exact open_cap Try.underlying23 hm
  obtain ⟨z1, w1⟩ := (by obtain ⟨fuel, hf⟩ := h1; exact open_ops hf : ∃ z : Nat → OpA, OpsAt W a1 len1 z)
  clear hA0 hval0
  refine (walk W a0 len0 cap0 z0 a1 len1 cap1 z1 w0 c0 w1 c1).mono fun e W' ⟨he, bel⟩ => ?_
  subst he
  exact ⟨_, rfl, _, _, _, [], _, [], hW', trodAll_mk1 (shut_bool Try.underlying4 _), (trodAll_cons_mk (Below.trod laidOut (by kernel_rfl) (of_decide_eq_true (by kernel_rfl)) k0 bel lt0) (trodAll_cons_mk (Below.trod laidOut (by kernel_rfl) (of_decide_eq_true (by kernel_rfl)) k1 bel lt1) trodAll_mk0)), rfl, bel.frame _, fun h => by cases h⟩

theorem over : Rows.posBackRow.holds Try.pinned (OpenSpec.ofChange Rows.posBackSpec) :=
  OpenClaim.holds_of_wide 4 Try.f4 rfl rfl rfl rfl rfl rfl rfl ⟨rfl, rfl, rfl, rfl, rfl⟩ rfl rfl rfl rfl rfl (by kernel_rfl) Try.func4 (by kernel_rfl)
    (of_decide_eq_true (by kernel_rfl)) (by unfold Func.isWrapper; first | (rw [if_pos (by decide +kernel)]; kernel_rfl) | (rw [if_neg (by decide +kernel)]; exact ⟨rfl, rfl⟩))
    (fun os started H enc _ => lifted os started H enc)

theorem proved : Rows.PosBackSaid := over
#print axioms proved
end Go.Proofs.Ytocbmjkbbbmncaa.posBack
namespace Go.Proofs.Ytocbmjkbbbmncaa
theorem posBack_holds : Rows.PosBackSaid := posBack.proved
#print axioms posBack_holds
end Go.Proofs.Ytocbmjkbbbmncaa
