/-
  Proved: for all places and all changes the law PosAll returns true; no condition.
-/
import Derived.Test.YtocbmjkbbbmncaaDuo
namespace Go.Proofs.Ytocbmjkbbbmncaa.posAll
open Go.ChangeShapes Go.WideShapes Go.ChangeAt Go.RowKit Go.Proofs.Ytocbmjkbbbmncaa.hp Go.Proofs.Ytocbmjkbbbmncaa.st
set_option linter.unusedVariables false

theorem told_none (ps : List (Int × Int)) (n k : Nat) : told ps (List.replicate n false) k = [] := by
  induction k with
  | zero => rfl
  | succ k ih =>
    rw [told, if_neg, ih]
    rw [List.getD_eq_getElem?_getD, List.getElem?_replicate]
    split <;> simp

set_option maxHeartbeats 2000000 in
theorem early (w : World) (a0 : Option Addr) (l0 c0 : Nat) (a1 : Option Addr) (l1 c1 : Nat) (hh : 100 < l0 ∨ 100 < l1) :
    Calls Try.prog 5 #[.slice a0 l0 c0, .slice a1 l1 c1] w fun e w' => e = .returned (.bool true) ∧ Below w.heap.size w w' := by
  have hc : (100 : Int) < l0 ∨ ((l0 : Int) ≤ 100 ∧ (100 : Int) < l1) := by omega
  clear hh
  rcases hc with h1 | ⟨h1, h2⟩
  all_goals
    go_enter Try.func5, Try.ntmps5
    go_wp2_with fail
    refine (first_any _).mono ?_
    rintro e w1 ⟨rfl, k1⟩
    go_wp2_with fail
    refine (first_any _).mono ?_
    rintro e w3 ⟨rfl, k3⟩
    go_wp2
    go_ret
    exact ⟨rfl, (k1.then k3).below⟩

set_option maxRecDepth 100000 in
set_option maxHeartbeats 8000000 in
theorem late (w : World) (a0 : Option Addr) (c0 : Nat) (ps : List (Int × Int)) (a1 : Option Addr) (c1 : Nat) (cs : List (Int × Int × Int)) (h0 : Lie (Old w) w (.slice a0 ps.length c0) ps.length (ps.flatMap f2)) (h1 : Lie (Old w) w (.slice a1 cs.length c1) cs.length (cs.flatMap f3)) (hp : ps.length ≤ 100) (hc : cs.length ≤ 100) :
    Calls Try.prog 5 #[.slice a0 ps.length c0, .slice a1 cs.length c1] w fun e w' => e = .returned (.bool true) ∧ Below w.heap.size w w' := by
  have HNew : Hid (∀ W, Chg no w W → Calls Try.prog 9 #[.slice a0 ps.length c0] W fun e w' => ∃ r, e = .returned r ∧ Made 63 33 W ps r w') := fun W k => new_any W _ ps (h0.same k) (by omega)
  have HL : Hid (∀ W, Chg no w W → ∀ k d l t, cs[k]? = some (d, l, t) → ∃ y, a1 = some y ∧ W.cell? (y.add (k * 3)) = some (.int .i64 d) ∧ W.cell? ⟨(y.add (k * 3)).block, (y.add (k * 3)).off + 1, none⟩ = some (.int .i64 l) ∧ W.cell? ⟨(y.add (k * 3)).block, (y.add (k * 3)).off + 2, none⟩ = some (.int .i64 t)) := by
    intro W kk k d l t e
    obtain ⟨y, e1, _, e2, e3, e4⟩ := (h1.same kk).at3 e
    exact ⟨y, e1, e2, e3, e4⟩
  have HLi : Hid (∀ W, Chg no w W → Lie (Old w) W (.slice a1 cs.length c1) cs.length (cs.flatMap f3)) := fun W k => h1.same k
  obtain ⟨n, hn⟩ : ∃ n, ps.length = n := ⟨_, rfl⟩
  have HN : Hid (ps.length = n) := hn
  obtain ⟨m, hm⟩ : ∃ m, cs.length = m := ⟨_, rfl⟩
  have HM : Hid (cs.length = m) := hm
  rw [hn] at hp HNew ⊢
  rw [hm] at hc HLi ⊢
  have i1 : (n : Int) ≤ 100 := by omega
  have i2 : (m : Int) ≤ 100 := by omega
  clear h0 h1 hn hm
  go_enter Try.func5, Try.ntmps5
  go_wp2_with fail
  refine (first_any _).mono ?_
  rintro e w1 ⟨rfl, k1⟩
  go_wp2_with fail
  refine (HNew.out w1 k1).mono ?_
  rintro e w2 ⟨r2, rfl, p, pv, cv, rfl, M2, k2, n2⟩
  go_wp2_with fail
  refine (HNew.out w2 (k1.then k2)).mono ?_
  rintro e w3 ⟨r3, rfl, p', pv', cv', rfl, M3, k3, n3⟩
  have HD : Hid (Duo 63 33 63 33 w p pv cv ps (List.replicate ps.length false) p' pv' cv' ps (List.replicate ps.length false) w3) := Duo.made k1 M2 k2 n2 (Chg.refl no w2) M3 k3 n3
  clear HNew k1 M2 k2 n2 M3 k3 n3
  go_wp2_with fail
  go_loopw [7, 8] (fun f i wr => ∃ j : Nat, j ≤ m ∧ i = .int .i64 (j : Int) ∧ f = .bool (mayAll n (cs.take j)) ∧ w3 = wr) (fun _ i _ => m - (intOf i).toNat)
  case atStart => exact ⟨0, by omega, rfl, rfl, rfl⟩
  case round =>
    obtain ⟨j, hj, rfl, rfl, rfl⟩ := hrel
    by_cases hjn : j < m
    · have hji : (j : Int) < m := by omega
      have hjl : j < cs.length := by rw [HM.out]; exact hjn
      obtain ⟨⟨d, l, t⟩, hlt⟩ : ∃ x, cs[j]? = some x := ⟨_, List.getElem?_eq_getElem hjl⟩
      obtain ⟨y, rfl, e0, e1, e2⟩ := HL.out w3 (Duo.chg HD.out) j d l t hlt
      have HX : Hid (mayAll n (cs.take (j + 1)) = (mayAll n (cs.take j) && may n d l t)) := mayAll_next n cs j d l t hlt
      obtain ⟨b, hb⟩ : ∃ b, mayAll n (cs.take j) = b := ⟨_, rfl⟩
      rw [hb] at HX ⊢
      clear hb hlt hjl
      have hcs : b = false ∨ (b = true ∧ d < 0 ∧ may n d l t = false) ∨ (b = true ∧ 0 ≤ d ∧ (n : Int) ≤ d ∧ may n d l t = false) ∨ (b = true ∧ 0 ≤ d ∧ d < n ∧ l < 0 ∧ may n d l t = false) ∨ (b = true ∧ 0 ≤ d ∧ d < n ∧ 0 ≤ l ∧ t < 0 ∧ may n d l t = false) ∨ (b = true ∧ 0 ≤ d ∧ d < n ∧ 0 ≤ l ∧ 0 ≤ t ∧ may n d l t = true) := by
        unfold may
        cases b
        · exact .inl rfl
        · simp
          omega
      rcases hcs with rfl | ⟨rfl, h1, hb⟩ | ⟨rfl, h1, h2, hb⟩ | ⟨rfl, h1, h2, h3, hb⟩ | ⟨rfl, h1, h2, h3, h4, hb⟩ | ⟨rfl, h1, h2, h3, h4, hb⟩
      all_goals
        first
          | rw [hb] at HX
            clear hb
          | skip
        go_wp2
        go_roundw
        case rel => exact ⟨j + 1, by omega, by go_num, by rw [HX.out]; first | rfl | (congr 1; simp; omega), by first | rfl | trivial⟩
        case measure => simp [intOf]; omega
    · obtain rfl : j = m := by omega
      have hji : (j : Int) ≤ j := by omega
      have e1 : mayAll n (cs.take j) = mayAll n cs := by rw [← HM.out, List.take_length]
      rw [e1]
      clear e1 hjn hj
      have HA : Hid (Calls Try.prog 17 #[pt p, .slice a1 j c1] w3 fun e w' => e = .returned (.bool (mayAll n cs)) ∧ Duo 63 33 63 33 w p pv cv (applyP ps cs) (List.replicate ps.length false) p' pv' cv' ps (List.replicate ps.length false) w') := by
        have hli := HLi.out w3 (Duo.chg HD.out)
        rw [← HM.out] at hli ⊢
        refine (apply_any (Duo.a HD.out) _ cs hli (fun k hk e => ?_) (by rw [HM.out]; omega)).mono ?_
        · have := (Duo.na HD.out) k e
          unfold Old at hk
          omega
        · rintro e w' ⟨rfl, M, k⟩
          exact ⟨by rw [HN.out], Duo.left HD.out M k⟩
      obtain ⟨F, hF⟩ : ∃ F, mayAll n cs = F := ⟨_, rfl⟩
      have HF : Hid (mayAll n cs = F) := hF
      rw [hF] at HA ⊢
      clear hF HD
      go_wp2_with fail
      refine HA.out.mono ?_
      rintro e w4 ⟨rfl, D4⟩
      have HD4 : Hid _ := D4
      clear D4 HA
      go_wp2_with fail
      go_loopw [9] (fun i wr => ∃ (k : Nat) (ch5 : List Bool), k ≤ j ∧ i = .int .i64 (k : Int) ∧ Duo 63 33 63 33 w p pv cv (applyP ps cs) (List.replicate ps.length false) p' pv' cv' (if F = true then putAll ps (cs.take k) else ps) ch5 wr) (fun i _ => j - (intOf i).toNat)
      case atStart => exact ⟨0, _, by omega, rfl, by first | exact HD4.out | (cases F <;> exact HD4.out)⟩
      case round =>
        clear HD4
        obtain ⟨k, ch5, hk, rfl, hD⟩ := hrel
        by_cases hkn : k < j
        · have hki : (k : Int) < j := by omega
          cases F
          · obtain ⟨w5, rfl⟩ : ∃ w5, w5 = wr := ⟨wr, rfl⟩
            have D5 : Duo 63 33 63 33 w p pv cv (applyP ps cs) (List.replicate ps.length false) p' pv' cv' (applyP ps cs) ch5 w5 := by
              have e : applyP ps cs = ps := by unfold applyP; rw [HN.out, HF.out]; rfl
              rw [e] at hD ⊢
              exact hD
            clear hD
            have hQ : (applyP ps cs).length = n := by rw [applyP_length]; exact HN.out
            obtain ⟨Q, hQQ⟩ : ∃ Q, applyP ps cs = Q := ⟨_, rfl⟩
            rw [hQQ] at D5 hQ
            have HA5 := all_any D5.a (by omega)
            have HD5 : Hid _ := D5
            clear hQQ D5
            go_wp2_with fail
            refine HA5.mono ?_
            rintro e w6 ⟨v6, rfl, N6⟩
            have HD6 : Hid _ := Duo.same HD5.out N6.2
            have HP6 := lplaces_any w6 v6 Q N6.lie (by omega)
            have HN6 : Hid (∀ W, Chg no w6 W → W.ownsRow w5.heap.size 33 2 v6 Q.length (Q.flatMap f2)) := fun W k => k.owns N6.1 (fun _ _ h => h)
            obtain ⟨x6, c6, rfl⟩ := N6.shape
            rw [hQ] at HN6 HP6 ⊢
            clear HA5 N6
            go_wp2_with fail
            refine HP6.mono ?_
            rintro e w7 ⟨v7, rfl, N7⟩
            have HD7 : Hid _ := Duo.same HD6.out N7.2
            have HA7 := all_any (Duo.b HD7.out) (by omega)
            have HN7 : Hid (∀ W, Chg no w7 W → Lie (fun _ => True) W v7 Q.length (Q.flatMap f2)) := fun W k => (N7.lie.same k).mono (fun _ _ => trivial)
            have k7 := N7.2
            obtain ⟨x7, c7, rfl⟩ := N7.shape
            rw [hQ] at HN7 ⊢
            clear HP6 HD6
            go_wp2_with fail
            refine HA7.mono ?_
            rintro e w8 ⟨v8, rfl, N8⟩
            have HD8 : Hid _ := Duo.same HD7.out N8.2
            have HP8 := lplaces_any w8 v8 Q N8.lie (by omega)
            obtain ⟨x8, c8, rfl⟩ := N8.shape
            have k8 := N8.2
            rw [hQ] at HP8 ⊢
            clear HA7 HD7 N8
            go_wp2_with fail
            refine HP8.mono ?_
            rintro e w9 ⟨v9, rfl, N9⟩
            have HD9 : Hid _ := Duo.same HD8.out N9.2
            have HS9 := places_same (J := fun _ => True) (K := fun _ => True) w9 (.slice x7 n c7) v9 Q (by rw [hQ]; exact HN7.out _ (k8.then N9.2)) (N9.lie.mono (fun _ _ => trivial)) (by omega)
            obtain ⟨x9, c9, rfl⟩ := N9.shape
            rw [hQ] at HS9 ⊢
            have K9 : Chg no w6 w9 := (k7.then k8).then N9.2
            clear HP8 HD8 N9 k8 HN7
            go_wp2_with fail
            refine HS9.mono ?_
            rintro e w10 ⟨rfl, k10⟩
            have HD10 : Hid _ := Duo.same HD9.out k10
            have HC10 := changes_any (Duo.a HD10.out) (by omega)
            rw [told_none] at HC10
            have K10 := K9.then k10
            clear HS9 HD9 K9 k10
            go_wp2_with fail
            refine HC10.mono ?_
            rintro e w11 ⟨v11, rfl, N11⟩
            have HD11 : Hid _ := Duo.same HD10.out N11.2
            obtain ⟨x11, c11, rfl⟩ := N11.shape
            have HO11 : Hid (w11.ownsRow w5.heap.size 33 2 (.slice x6 n c6) n (Q.flatMap f2)) := by
              exact HN6.out _ (K10.then N11.2)
            have HF5 : Hid (∀ k, Ft p pv cv k ∨ Ft p' pv' cv' k → k < w5.heap.size) := fun k hk => by
              rcases hk with hk | hk
              · exact (Duo.a HD5.out).lt k hk
              · exact (Duo.b HD5.out).lt k hk
            have s5 := (Duo.chg HD5.out).size
            simp only [List.length_nil]
            clear HC10 N11 HD10 K10 HN6 HD5
            go_wp2_with fail
            go_loopw [11] (fun i wr => ∃ (j : Nat) (XS : List Value), j ≤ n ∧ i = .int .i64 (j : Int) ∧ wr.ownsRow w5.heap.size 33 2 (.slice x6 n c6) n XS ∧ Duo 63 33 63 33 w p pv cv Q (List.replicate ps.length false) p' pv' cv' Q ch5 wr) (fun i _ => n - (intOf i).toNat)
            case atStart => exact ⟨0, _, by omega, rfl, HO11.out, HD11.out⟩
            case round =>
              clear HD11 HO11
              obtain ⟨j, XS, hj, rfl, hO, hD⟩ := hrel
              by_cases hjn : j < n
              · have hji : (j : Int) < n := by omega
                have hX : j * 2 < XS.length := by rw [hO.1]; omega
                rcases hO.2 with ⟨_, hn0⟩ | ⟨g, cap, cur, hv, hb, _⟩
                · omega
                cases hv
                obtain ⟨u, hu⟩ : ∃ u, XS[j * 2]? = some u := ⟨_, List.getElem?_eq_getElem hX⟩
                have q0 := hO.cellAt (j * 2) (by omega)
                rw [hu] at q0
                have q1 := hO.frozenAt (j * 2)
                have HO2 : Hid _ := (hO.stored (j * 2) (.int .i64 99)).1
                have HD2 : Hid (Duo 63 33 63 33 w p pv cv Q (List.replicate ps.length false) p' pv' cv' Q ch5 (wr.setCell ⟨g, j * 2, none⟩ (.int .i64 99))) := hD.aside (F := fun b => b = g) ((Chg.refl _ wr).setCell _ _ (.inl rfl)) (fun b hb2 => by
                  subst hb2
                  refine ⟨by omega, fun e => ?_, fun e => ?_⟩
                  · have := HF5.out _ (.inl e)
                    omega
                  · have := HF5.out _ (.inr e)
                    omega)
                clear hO hD hX hu
                go_wp2
                go_roundw
                case rel => exact ⟨j + 1, _, by omega, by go_num, HO2.out, HD2.out⟩
                case measure => simp [intOf]; omega
              · obtain rfl : j = n := by omega
                have hji : (j : Int) ≤ j := by omega
                have HD12 : Hid _ := hD
                clear hO hD
                go_wp2_with fail
                refine (first_any _).mono ?_
                rintro e w13 ⟨rfl, k13⟩
                have HD13 : Hid _ := Duo.same HD12.out k13
                have HA13 := all_any (Duo.a HD13.out) (by omega)
                clear HD12 k13
                go_wp2_with fail
                refine HA13.mono ?_
                rintro e w14 ⟨v14, rfl, N14⟩
                have HD14 : Hid _ := Duo.same HD13.out N14.2
                have HP14 := lplaces_any w14 v14 Q N14.lie (by omega)
                obtain ⟨x14, c14, rfl⟩ := N14.shape
                rw [hQ] at HP14 ⊢
                clear HA13 N14 HD13
                go_wp2_with fail
                refine HP14.mono ?_
                rintro e w15 ⟨v15, rfl, N15⟩
                have HD15 : Hid _ := Duo.same HD14.out N15.2
                have HA15 := all_any (Duo.b HD15.out) (by omega)
                have HN15 : Hid (∀ W, Chg no w15 W → Lie (fun _ => True) W v15 Q.length (Q.flatMap f2)) := fun W k => (N15.lie.same k).mono (fun _ _ => trivial)
                have k15 := N15.2
                obtain ⟨x15, c15, rfl⟩ := N15.shape
                rw [hQ] at HN15 ⊢
                clear HP14 HD14
                go_wp2_with fail
                refine HA15.mono ?_
                rintro e w16 ⟨v16, rfl, N16⟩
                have HD16 : Hid _ := Duo.same HD15.out N16.2
                have HP16 := lplaces_any w16 v16 Q N16.lie (by omega)
                obtain ⟨x16, c16, rfl⟩ := N16.shape
                have k16 := N16.2
                rw [hQ] at HP16 ⊢
                clear HA15 HD15 N16
                go_wp2_with fail
                refine HP16.mono ?_
                rintro e w17 ⟨v17, rfl, N17⟩
                have HD17 : Hid _ := Duo.same HD16.out N17.2
                have HS17 := places_same (J := fun _ => True) (K := fun _ => True) w17 (.slice x15 j c15) v17 Q (by rw [hQ]; exact HN15.out _ (k16.then N17.2)) (N17.lie.mono (fun _ _ => trivial)) (by omega)
                obtain ⟨x17, c17, rfl⟩ := N17.shape
                rw [hQ] at HS17 ⊢
                clear HP16 HD16 N17 k16 HN15
                go_wp2_with fail
                refine HS17.mono ?_
                rintro e w18 ⟨rfl, k18⟩
                have HK18 : Hid (Chg no w w18) := (Duo.chg HD17.out).then k18
                clear HS17 HD17 k18
                go_wp2
                go_ret
                exact ⟨rfl, Chg.below HK18.out⟩
          · have hkl : k < cs.length := by rw [HM.out]; exact hkn
            obtain ⟨⟨d, l, t⟩, hlt⟩ : ∃ x, cs[k]? = some x := ⟨_, List.getElem?_eq_getElem hkl⟩
            obtain ⟨y, rfl, e0, e1, e2⟩ := HL.out wr hD.chg k d l t hlt
            rw [if_pos rfl] at hD
            have hmay : may (putAll ps (cs.take k)).length d l t = true := by rw [putAll_length, HN.out]; exact mayAll_at HF.out hlt
            have HS : Hid (Calls Try.prog 12 #[pt p', .int .i64 d, nv l t] wr.drew fun e w' => e = .returned (.bool true) ∧ ∃ ch6, Duo 63 33 63 33 w p pv cv (applyP ps cs) (List.replicate ps.length false) p' pv' cv' (if true = true then putAll ps (cs.take (k + 1)) else ps) ch6 w') := by
              have D6 := hD.same (Chg.refl no wr).drew
              refine (set_any D6.b d l t).mono ?_
              rintro e w' ⟨rfl, M, kk⟩
              refine ⟨by rw [hmay], setC (putAll ps (cs.take k)).length ch5 d l t, ?_⟩
              rw [if_pos rfl, putAll_next ps cs k d l t hlt]
              have e3 : setP (putAll ps (cs.take k)) d l t = (putAll ps (cs.take k)).set d.toNat (l, t) := by unfold setP; rw [if_pos hmay]
              rw [e3] at M
              exact D6.right M kk
            clear hD hlt hkl hmay
            go_wp2_with fail
            go_region_with (go_at_call 12; refine HS.out.mono ?_; rintro e w6 ⟨rfl, ch6, D6⟩)
            all_goals go_wp2
            all_goals go_roundw
            all_goals first
              | exact ⟨k + 1, ch6, by omega, by go_num, D6⟩
              | (simp [intOf]; omega)
        · obtain rfl : k = j := by omega
          have hki : (k : Int) ≤ k := by omega
          obtain ⟨w5, rfl⟩ : ∃ w5, w5 = wr := ⟨wr, rfl⟩
          have D5 : Duo 63 33 63 33 w p pv cv (applyP ps cs) (List.replicate ps.length false) p' pv' cv' (applyP ps cs) ch5 w5 := by
            rw [← HM.out, List.take_length] at hD
            have e : applyP ps cs = if F = true then putAll ps cs else ps := by unfold applyP; rw [HN.out, HF.out]
            rw [e] at hD ⊢
            exact hD
          clear hD
          cases F
          · clear HF
            have hQ : (applyP ps cs).length = n := by rw [applyP_length]; exact HN.out
            obtain ⟨Q, hQQ⟩ : ∃ Q, applyP ps cs = Q := ⟨_, rfl⟩
            rw [hQQ] at D5 hQ
            have HA5 := all_any D5.a (by omega)
            have HD5 : Hid _ := D5
            clear hQQ D5
            go_wp2_with fail
            refine HA5.mono ?_
            rintro e w6 ⟨v6, rfl, N6⟩
            have HD6 : Hid _ := Duo.same HD5.out N6.2
            have HP6 := lplaces_any w6 v6 Q N6.lie (by omega)
            have HN6 : Hid (∀ W, Chg no w6 W → W.ownsRow w5.heap.size 33 2 v6 Q.length (Q.flatMap f2)) := fun W k => k.owns N6.1 (fun _ _ h => h)
            obtain ⟨x6, c6, rfl⟩ := N6.shape
            rw [hQ] at HN6 HP6 ⊢
            clear HA5 N6
            go_wp2_with fail
            refine HP6.mono ?_
            rintro e w7 ⟨v7, rfl, N7⟩
            have HD7 : Hid _ := Duo.same HD6.out N7.2
            have HA7 := all_any (Duo.b HD7.out) (by omega)
            have HN7 : Hid (∀ W, Chg no w7 W → Lie (fun _ => True) W v7 Q.length (Q.flatMap f2)) := fun W k => (N7.lie.same k).mono (fun _ _ => trivial)
            have k7 := N7.2
            obtain ⟨x7, c7, rfl⟩ := N7.shape
            rw [hQ] at HN7 ⊢
            clear HP6 HD6
            go_wp2_with fail
            refine HA7.mono ?_
            rintro e w8 ⟨v8, rfl, N8⟩
            have HD8 : Hid _ := Duo.same HD7.out N8.2
            have HP8 := lplaces_any w8 v8 Q N8.lie (by omega)
            obtain ⟨x8, c8, rfl⟩ := N8.shape
            have k8 := N8.2
            rw [hQ] at HP8 ⊢
            clear HA7 HD7 N8
            go_wp2_with fail
            refine HP8.mono ?_
            rintro e w9 ⟨v9, rfl, N9⟩
            have HD9 : Hid _ := Duo.same HD8.out N9.2
            have HS9 := places_same (J := fun _ => True) (K := fun _ => True) w9 (.slice x7 n c7) v9 Q (by rw [hQ]; exact HN7.out _ (k8.then N9.2)) (N9.lie.mono (fun _ _ => trivial)) (by omega)
            obtain ⟨x9, c9, rfl⟩ := N9.shape
            rw [hQ] at HS9 ⊢
            have K9 : Chg no w6 w9 := (k7.then k8).then N9.2
            clear HP8 HD8 N9 k8 HN7
            go_wp2_with fail
            refine HS9.mono ?_
            rintro e w10 ⟨rfl, k10⟩
            have HD10 : Hid _ := Duo.same HD9.out k10
            have HC10 := changes_any (Duo.a HD10.out) (by omega)
            rw [told_none] at HC10
            have K10 := K9.then k10
            clear HS9 HD9 K9 k10
            go_wp2_with fail
            refine HC10.mono ?_
            rintro e w11 ⟨v11, rfl, N11⟩
            have HD11 : Hid _ := Duo.same HD10.out N11.2
            obtain ⟨x11, c11, rfl⟩ := N11.shape
            have HO11 : Hid (w11.ownsRow w5.heap.size 33 2 (.slice x6 n c6) n (Q.flatMap f2)) := by
              exact HN6.out _ (K10.then N11.2)
            have HF5 : Hid (∀ k, Ft p pv cv k ∨ Ft p' pv' cv' k → k < w5.heap.size) := fun k hk => by
              rcases hk with hk | hk
              · exact (Duo.a HD5.out).lt k hk
              · exact (Duo.b HD5.out).lt k hk
            have s5 := (Duo.chg HD5.out).size
            simp only [List.length_nil]
            clear HC10 N11 HD10 K10 HN6 HD5
            go_wp2_with fail
            go_loopw [11] (fun i wr => ∃ (j : Nat) (XS : List Value), j ≤ n ∧ i = .int .i64 (j : Int) ∧ wr.ownsRow w5.heap.size 33 2 (.slice x6 n c6) n XS ∧ Duo 63 33 63 33 w p pv cv Q (List.replicate ps.length false) p' pv' cv' Q ch5 wr) (fun i _ => n - (intOf i).toNat)
            case atStart => exact ⟨0, _, by omega, rfl, HO11.out, HD11.out⟩
            case round =>
              clear HD11 HO11
              obtain ⟨j, XS, hj, rfl, hO, hD⟩ := hrel
              by_cases hjn : j < n
              · have hji : (j : Int) < n := by omega
                have hX : j * 2 < XS.length := by rw [hO.1]; omega
                rcases hO.2 with ⟨_, hn0⟩ | ⟨g, cap, cur, hv, hb, _⟩
                · omega
                cases hv
                obtain ⟨u, hu⟩ : ∃ u, XS[j * 2]? = some u := ⟨_, List.getElem?_eq_getElem hX⟩
                have q0 := hO.cellAt (j * 2) (by omega)
                rw [hu] at q0
                have q1 := hO.frozenAt (j * 2)
                have HO2 : Hid _ := (hO.stored (j * 2) (.int .i64 99)).1
                have HD2 : Hid (Duo 63 33 63 33 w p pv cv Q (List.replicate ps.length false) p' pv' cv' Q ch5 (wr.setCell ⟨g, j * 2, none⟩ (.int .i64 99))) := hD.aside (F := fun b => b = g) ((Chg.refl _ wr).setCell _ _ (.inl rfl)) (fun b hb2 => by
                  subst hb2
                  refine ⟨by omega, fun e => ?_, fun e => ?_⟩
                  · have := HF5.out _ (.inl e)
                    omega
                  · have := HF5.out _ (.inr e)
                    omega)
                clear hO hD hX hu
                go_wp2
                go_roundw
                case rel => exact ⟨j + 1, _, by omega, by go_num, HO2.out, HD2.out⟩
                case measure => simp [intOf]; omega
              · obtain rfl : j = n := by omega
                have hji : (j : Int) ≤ j := by omega
                have HD12 : Hid _ := hD
                clear hO hD
                go_wp2_with fail
                refine (first_any _).mono ?_
                rintro e w13 ⟨rfl, k13⟩
                have HD13 : Hid _ := Duo.same HD12.out k13
                have HA13 := all_any (Duo.a HD13.out) (by omega)
                clear HD12 k13
                go_wp2_with fail
                refine HA13.mono ?_
                rintro e w14 ⟨v14, rfl, N14⟩
                have HD14 : Hid _ := Duo.same HD13.out N14.2
                have HP14 := lplaces_any w14 v14 Q N14.lie (by omega)
                obtain ⟨x14, c14, rfl⟩ := N14.shape
                rw [hQ] at HP14 ⊢
                clear HA13 N14 HD13
                go_wp2_with fail
                refine HP14.mono ?_
                rintro e w15 ⟨v15, rfl, N15⟩
                have HD15 : Hid _ := Duo.same HD14.out N15.2
                have HA15 := all_any (Duo.b HD15.out) (by omega)
                have HN15 : Hid (∀ W, Chg no w15 W → Lie (fun _ => True) W v15 Q.length (Q.flatMap f2)) := fun W k => (N15.lie.same k).mono (fun _ _ => trivial)
                have k15 := N15.2
                obtain ⟨x15, c15, rfl⟩ := N15.shape
                rw [hQ] at HN15 ⊢
                clear HP14 HD14
                go_wp2_with fail
                refine HA15.mono ?_
                rintro e w16 ⟨v16, rfl, N16⟩
                have HD16 : Hid _ := Duo.same HD15.out N16.2
                have HP16 := lplaces_any w16 v16 Q N16.lie (by omega)
                obtain ⟨x16, c16, rfl⟩ := N16.shape
                have k16 := N16.2
                rw [hQ] at HP16 ⊢
                clear HA15 HD15 N16
                go_wp2_with fail
                refine HP16.mono ?_
                rintro e w17 ⟨v17, rfl, N17⟩
                have HD17 : Hid _ := Duo.same HD16.out N17.2
                have HS17 := places_same (J := fun _ => True) (K := fun _ => True) w17 (.slice x15 j c15) v17 Q (by rw [hQ]; exact HN15.out _ (k16.then N17.2)) (N17.lie.mono (fun _ _ => trivial)) (by omega)
                obtain ⟨x17, c17, rfl⟩ := N17.shape
                rw [hQ] at HS17 ⊢
                clear HP16 HD16 N17 k16 HN15
                go_wp2_with fail
                refine HS17.mono ?_
                rintro e w18 ⟨rfl, k18⟩
                have HK18 : Hid (Chg no w w18) := (Duo.chg HD17.out).then k18
                clear HS17 HD17 k18
                go_wp2
                go_ret
                exact ⟨rfl, Chg.below HK18.out⟩
          · clear HF
            have hQ : (applyP ps cs).length = n := by rw [applyP_length]; exact HN.out
            obtain ⟨Q, hQQ⟩ : ∃ Q, applyP ps cs = Q := ⟨_, rfl⟩
            rw [hQQ] at D5 hQ
            have HA5 := all_any D5.a (by omega)
            have HD5 : Hid _ := D5
            clear hQQ D5
            go_wp2_with fail
            refine HA5.mono ?_
            rintro e w6 ⟨v6, rfl, N6⟩
            have HD6 : Hid _ := Duo.same HD5.out N6.2
            have HP6 := lplaces_any w6 v6 Q N6.lie (by omega)
            have HN6 : Hid (∀ W, Chg no w6 W → W.ownsRow w5.heap.size 33 2 v6 Q.length (Q.flatMap f2)) := fun W k => k.owns N6.1 (fun _ _ h => h)
            obtain ⟨x6, c6, rfl⟩ := N6.shape
            rw [hQ] at HN6 HP6 ⊢
            clear HA5 N6
            go_wp2_with fail
            refine HP6.mono ?_
            rintro e w7 ⟨v7, rfl, N7⟩
            have HD7 : Hid _ := Duo.same HD6.out N7.2
            have HA7 := all_any (Duo.b HD7.out) (by omega)
            have HN7 : Hid (∀ W, Chg no w7 W → Lie (fun _ => True) W v7 Q.length (Q.flatMap f2)) := fun W k => (N7.lie.same k).mono (fun _ _ => trivial)
            have k7 := N7.2
            obtain ⟨x7, c7, rfl⟩ := N7.shape
            rw [hQ] at HN7 ⊢
            clear HP6 HD6
            go_wp2_with fail
            refine HA7.mono ?_
            rintro e w8 ⟨v8, rfl, N8⟩
            have HD8 : Hid _ := Duo.same HD7.out N8.2
            have HP8 := lplaces_any w8 v8 Q N8.lie (by omega)
            obtain ⟨x8, c8, rfl⟩ := N8.shape
            have k8 := N8.2
            rw [hQ] at HP8 ⊢
            clear HA7 HD7 N8
            go_wp2_with fail
            refine HP8.mono ?_
            rintro e w9 ⟨v9, rfl, N9⟩
            have HD9 : Hid _ := Duo.same HD8.out N9.2
            have HS9 := places_same (J := fun _ => True) (K := fun _ => True) w9 (.slice x7 n c7) v9 Q (by rw [hQ]; exact HN7.out _ (k8.then N9.2)) (N9.lie.mono (fun _ _ => trivial)) (by omega)
            obtain ⟨x9, c9, rfl⟩ := N9.shape
            rw [hQ] at HS9 ⊢
            have K9 : Chg no w6 w9 := (k7.then k8).then N9.2
            clear HP8 HD8 N9 k8 HN7
            go_wp2_with fail
            refine HS9.mono ?_
            rintro e w10 ⟨rfl, k10⟩
            have HD10 : Hid _ := Duo.same HD9.out k10
            have HC10 := changes_any (Duo.a HD10.out) (by omega)
            rw [told_none] at HC10
            have K10 := K9.then k10
            clear HS9 HD9 K9 k10
            go_wp2_with fail
            refine HC10.mono ?_
            rintro e w11 ⟨v11, rfl, N11⟩
            have HD11 : Hid _ := Duo.same HD10.out N11.2
            obtain ⟨x11, c11, rfl⟩ := N11.shape
            have HO11 : Hid (w11.ownsRow w5.heap.size 33 2 (.slice x6 n c6) n (Q.flatMap f2)) := by
              exact HN6.out _ (K10.then N11.2)
            have HF5 : Hid (∀ k, Ft p pv cv k ∨ Ft p' pv' cv' k → k < w5.heap.size) := fun k hk => by
              rcases hk with hk | hk
              · exact (Duo.a HD5.out).lt k hk
              · exact (Duo.b HD5.out).lt k hk
            have s5 := (Duo.chg HD5.out).size
            simp only [List.length_nil]
            clear HC10 N11 HD10 K10 HN6 HD5
            go_wp2_with fail
            go_loopw [11] (fun i wr => ∃ (j : Nat) (XS : List Value), j ≤ n ∧ i = .int .i64 (j : Int) ∧ wr.ownsRow w5.heap.size 33 2 (.slice x6 n c6) n XS ∧ Duo 63 33 63 33 w p pv cv Q (List.replicate ps.length false) p' pv' cv' Q ch5 wr) (fun i _ => n - (intOf i).toNat)
            case atStart => exact ⟨0, _, by omega, rfl, HO11.out, HD11.out⟩
            case round =>
              clear HD11 HO11
              obtain ⟨j, XS, hj, rfl, hO, hD⟩ := hrel
              by_cases hjn : j < n
              · have hji : (j : Int) < n := by omega
                have hX : j * 2 < XS.length := by rw [hO.1]; omega
                rcases hO.2 with ⟨_, hn0⟩ | ⟨g, cap, cur, hv, hb, _⟩
                · omega
                cases hv
                obtain ⟨u, hu⟩ : ∃ u, XS[j * 2]? = some u := ⟨_, List.getElem?_eq_getElem hX⟩
                have q0 := hO.cellAt (j * 2) (by omega)
                rw [hu] at q0
                have q1 := hO.frozenAt (j * 2)
                have HO2 : Hid _ := (hO.stored (j * 2) (.int .i64 99)).1
                have HD2 : Hid (Duo 63 33 63 33 w p pv cv Q (List.replicate ps.length false) p' pv' cv' Q ch5 (wr.setCell ⟨g, j * 2, none⟩ (.int .i64 99))) := hD.aside (F := fun b => b = g) ((Chg.refl _ wr).setCell _ _ (.inl rfl)) (fun b hb2 => by
                  subst hb2
                  refine ⟨by omega, fun e => ?_, fun e => ?_⟩
                  · have := HF5.out _ (.inl e)
                    omega
                  · have := HF5.out _ (.inr e)
                    omega)
                clear hO hD hX hu
                go_wp2
                go_roundw
                case rel => exact ⟨j + 1, _, by omega, by go_num, HO2.out, HD2.out⟩
                case measure => simp [intOf]; omega
              · obtain rfl : j = n := by omega
                have hji : (j : Int) ≤ j := by omega
                have HD12 : Hid _ := hD
                clear hO hD
                go_wp2_with fail
                refine (first_any _).mono ?_
                rintro e w13 ⟨rfl, k13⟩
                have HD13 : Hid _ := Duo.same HD12.out k13
                have HA13 := all_any (Duo.a HD13.out) (by omega)
                clear HD12 k13
                go_wp2_with fail
                refine HA13.mono ?_
                rintro e w14 ⟨v14, rfl, N14⟩
                have HD14 : Hid _ := Duo.same HD13.out N14.2
                have HP14 := lplaces_any w14 v14 Q N14.lie (by omega)
                obtain ⟨x14, c14, rfl⟩ := N14.shape
                rw [hQ] at HP14 ⊢
                clear HA13 N14 HD13
                go_wp2_with fail
                refine HP14.mono ?_
                rintro e w15 ⟨v15, rfl, N15⟩
                have HD15 : Hid _ := Duo.same HD14.out N15.2
                have HA15 := all_any (Duo.b HD15.out) (by omega)
                have HN15 : Hid (∀ W, Chg no w15 W → Lie (fun _ => True) W v15 Q.length (Q.flatMap f2)) := fun W k => (N15.lie.same k).mono (fun _ _ => trivial)
                have k15 := N15.2
                obtain ⟨x15, c15, rfl⟩ := N15.shape
                rw [hQ] at HN15 ⊢
                clear HP14 HD14
                go_wp2_with fail
                refine HA15.mono ?_
                rintro e w16 ⟨v16, rfl, N16⟩
                have HD16 : Hid _ := Duo.same HD15.out N16.2
                have HP16 := lplaces_any w16 v16 Q N16.lie (by omega)
                obtain ⟨x16, c16, rfl⟩ := N16.shape
                have k16 := N16.2
                rw [hQ] at HP16 ⊢
                clear HA15 HD15 N16
                go_wp2_with fail
                refine HP16.mono ?_
                rintro e w17 ⟨v17, rfl, N17⟩
                have HD17 : Hid _ := Duo.same HD16.out N17.2
                have HS17 := places_same (J := fun _ => True) (K := fun _ => True) w17 (.slice x15 j c15) v17 Q (by rw [hQ]; exact HN15.out _ (k16.then N17.2)) (N17.lie.mono (fun _ _ => trivial)) (by omega)
                obtain ⟨x17, c17, rfl⟩ := N17.shape
                rw [hQ] at HS17 ⊢
                clear HP16 HD16 N17 k16 HN15
                go_wp2_with fail
                refine HS17.mono ?_
                rintro e w18 ⟨rfl, k18⟩
                have HK18 : Hid (Chg no w w18) := (Duo.chg HD17.out).then k18
                clear HS17 HD17 k18
                go_wp2
                go_ret
                exact ⟨rfl, Chg.below HK18.out⟩

theorem walk (w : World) (a0 : Option Addr) (l0 c0 : Nat) (ps : List (Int × Int)) (a1 : Option Addr) (l1 c1 : Nat) (cs : List (Int × Int × Int)) (w0 : ps.length = l0 ∧ Lie (Old w) w (.slice a0 l0 c0) ps.length (ps.flatMap f2)) (k0 : l0 ≤ c0 ∧ c0 ≤ maxLen) (w1 : cs.length = l1 ∧ Lie (Old w) w (.slice a1 l1 c1) cs.length (cs.flatMap f3)) (k1 : l1 ≤ c1 ∧ c1 ≤ maxLen) :
    Calls Try.prog 5 #[.slice a0 l0 c0, .slice a1 l1 c1] w fun e w' => e = .returned (.bool true) ∧ Below w.heap.size w w' := by
  by_cases hh : 100 < l0 ∨ 100 < l1
  · exact early w a0 l0 c0 a1 l1 c1 hh
  · obtain ⟨rfl, h0⟩ := w0
    obtain ⟨rfl, h1⟩ := w1
    exact late w a0 c0 ps a1 c1 cs h0 h1 (by omega) (by omega)

theorem own : ownKnob Try.prog.godebug = none := by kernel_rfl
theorem laidOut : laidOutB Try.prog = true := by kernel_rfl

set_option maxRecDepth 100000 in
theorem lifted (os : Os) (started : os.Started) (H : Type) (enc : TypeId × Value → H) :
    ReturnsInHanded {} Try.checked os 5 .any (Rows.posAllSpec.pre6 enc Try.prog Try.f5 Rows.posAllRow.domain false) (Rows.posAllSpec.post enc Try.prog Try.f5 false true false false) := by
  refine returnsInHanded_of_change (C := Try.checked) own started (by kernel_rfl) Try.func5
    (ChangeSpec.witness6 (enc := enc) (C := Try.checked) false ⟨#[], #[.slice none 0 0, .slice none 0 0], []⟩ 8 (by kernel_rfl) (by kernel_rfl) (by kernel_rfl) (by kernel_rfl)) ?_
  intro W base args ds gs before hval0 hW hcnd _
  have hval : ∀ (j : Nat) t v, Try.f5.params[j]? = some t → args[j]? = some v → Value.okWide Try.prog W .any base t v := hval0
  have hW' := hW
  obtain ⟨p, q, hA0, hV, rfl, hfz, hnd⟩ := hW
  have hA : DataW.TrodAll enc Try.prog W 0 (fun _ => true) true Try.f5.params.toList args.toList ds p := hA0
  rw [Try.params5] at hA hval
  obtain ⟨v0, vs0, d0, ds0, p0, q0, hargs, rfl, rfl, h0, r0⟩ := trodAll_cons hA
  obtain ⟨v1, vs1, d1, ds1, p1, q1, rfl, rfl, rfl, h1, r1⟩ := trodAll_cons r0
  obtain ⟨rfl, rfl, rfl⟩ := trodAll_nil r1
  obtain rfl : args = #[v0, v1] := by cases args; simp_all
  obtain ⟨rfl, rfl⟩ := trodVars_none hV
  obtain ⟨a0, len0, cap0, rfl⟩ := okWide_slice Try.underlying22 (hval 0 22 v0 rfl rfl)
  have k0 := h0
  have lt0 : ∀ x ∈ p0, x.block < W.heap.size := by obtain ⟨m, hm⟩ := k0; exact DataW.trod_lt m _ _ _ hm
  have c0 : len0 ≤ cap0 ∧ cap0 ≤ maxLen := by obtain ⟨m, hm⟩ := k0; exact open_cap Try.underlying22 hm
  obtain ⟨z0, w0⟩ := (by obtain ⟨fuel, hf⟩ := h0; exact open_places hf : ∃ z : List (Int × Int), z.length = len0 ∧ Lie (Old W) W (.slice a0 len0 cap0) z.length (z.flatMap f2))
  obtain ⟨a1, len1, cap1, rfl⟩ := okWide_slice Try.underlying34 (hval 1 34 v1 rfl rfl)
  have k1 := h1
  have lt1 : ∀ x ∈ p1, x.block < W.heap.size := by obtain ⟨m, hm⟩ := k1; exact DataW.trod_lt m _ _ _ hm
  have c1 : len1 ≤ cap1 ∧ cap1 ≤ maxLen := by obtain ⟨m, hm⟩ := k1; exact open_cap Try.underlying34 hm
  obtain ⟨z1, w1⟩ := (by obtain ⟨fuel, hf⟩ := h1; exact open_changes hf : ∃ z : List (Int × Int × Int), z.length = len1 ∧ Lie (Old W) W (.slice a1 len1 cap1) z.length (z.flatMap f3))
  clear hA0 hval0
  refine (walk W a0 len0 cap0 z0 a1 len1 cap1 z1 w0 c0 w1 c1).mono fun e W' ⟨he, bel⟩ => ?_
  subst he
  exact ⟨_, rfl, _, _, _, [], _, [], hW', trodAll_mk1 (shut_bool Try.underlying4 _), (trodAll_cons_mk (Below.trod laidOut (by kernel_rfl) (of_decide_eq_true (by kernel_rfl)) k0 bel lt0) (trodAll_cons_mk (Below.trod laidOut (by kernel_rfl) (of_decide_eq_true (by kernel_rfl)) k1 bel lt1) trodAll_mk0)), rfl, bel.frame _, fun h => by cases h⟩

theorem over : Rows.posAllRow.holds Try.pinned (OpenSpec.ofChange Rows.posAllSpec) :=
  OpenClaim.holds_of_wide 5 Try.f5 rfl rfl rfl rfl rfl rfl rfl ⟨rfl, rfl, rfl, rfl, rfl⟩ rfl rfl rfl rfl rfl (by kernel_rfl) Try.func5 (by kernel_rfl)
    (of_decide_eq_true (by kernel_rfl)) (by unfold Func.isWrapper; first | (rw [if_pos (by decide +kernel)]; kernel_rfl) | (rw [if_neg (by decide +kernel)]; exact ⟨rfl, rfl⟩))
    (fun os started H enc _ => lifted os started H enc)

theorem proved : Rows.PosAllSaid := over
#print axioms proved
end Go.Proofs.Ytocbmjkbbbmncaa.posAll
namespace Go.Proofs.Ytocbmjkbbbmncaa
theorem posAll_holds : Rows.PosAllSaid := posAll.proved
#print axioms posAll_holds
end Go.Proofs.Ytocbmjkbbbmncaa
