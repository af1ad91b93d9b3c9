/-
  Proved: for every height, any two numbers and any list of numbers the law TreePaths returns true; no condition.
-/
import Derived.Test.YtgdhbkhhholkgaaPathE
import Derived.Below
namespace Go.Proofs.Ytgdhbkhhholkgaa.treePaths
open Go.ChangeShapes Go.WideShapes Go.ChangeAt Go.RowKit Go.Proofs.Ytgdhbkhhholkgaa.hp Go.Proofs.Ytgdhbkhhholkgaa.tm Go.Proofs.Ytgdhbkhhholkgaa.st
set_option linter.unusedVariables false

set_option maxRecDepth 100000 in
set_option maxHeartbeats 16000000 in
theorem late (w : World) (h a b : Nat) (xl : Option Addr) (cl : Nat) (ls : List Int) (A3 : Lies (Old w) w (.slice xl ls.length cl) (ls.map (Value.int .i64))) (h1 : h ≤ 6) (ha : a < 2 ^ h) (hb : b < 2 ^ h) (hl : ls.length ≤ 60) :
    Calls Try.prog 5 #[.int .i64 h, .int .i64 a, .int .i64 b, .slice xl ls.length cl] w fun e w' => e = .returned (.bool true) ∧ Below w.heap.size w w' := by
  obtain ⟨i0, hi, hz0, hz1, hz2⟩ := info_parts info4
  obtain ⟨j0, hj, hy0, hy1, hy2⟩ := info_parts info3
  have hp := pow_le6 h h1
  have hli : (ls.length : Int) ≤ 60 := by omega
  have HA : Hid (∀ w', Chg no w w' → Lies (Old w) w' (.slice xl ls.length cl) (ls.map (Value.int .i64))) := fun w' k => A3.chg k (fun _ _ h => h)
  have H10 : Hid (∀ w, Calls Try.prog 10 #[.int .i64 h] w fun e w' => e = .returned (.bool true) ∧ w' = w) := by
    intro w
    have := may_any w h
    rw [(okH_iff h).2 ⟨by omega, by omega⟩] at this
    exact this
  have H11 : Hid (∀ w, Calls Try.prog 11 #[.int .i64 h] w fun e w' => e = .returned (.int .i64 ((2 * 2 ^ h - 1 : Nat) : Int)) ∧ w' = w) := by
    intro w
    have := buckets_any w h
    rw [bks_of h1] at this
    exact this
  have H13 : Hid (∀ w, Calls Try.prog 13 #[.int .i64 h] w fun e w' => e = .returned (.int .i64 ((2 ^ h : Nat) : Int)) ∧ w' = w) := by
    intro w
    have := leaves_any w h
    rw [lvs_of h1] at this
    exact this
  have HPA : Hid (∀ w, Calls Try.prog 15 #[.int .i64 h, .int .i64 a] w fun e w' => ∃ v, e = .returned v ∧ New w (path h a) v w') := fun w => path_some w h a h1 ha
  have HPB : Hid (∀ w, Calls Try.prog 15 #[.int .i64 h, .int .i64 b] w fun e w' => ∃ v, e = .returned v ∧ New w (path h b) v w') := fun w => path_some w h b h1 hb
  have HPI : Hid (∀ (w : World) (l : Nat), l < 2 ^ h → Calls Try.prog 15 #[.int .i64 h, .int .i64 l] w fun e w' => ∃ v, e = .returned v ∧ New w (path h l) v w') := fun w l hl => path_some w h l h1 hl
  have HSH : Hid (∀ w, Calls Try.prog 21 #[.int .i64 h, .int .i64 a, .int .i64 b] w fun e w' => e = .returned (.int .i64 (shr h a b)) ∧ w' = w) := fun w => shared_some w h a b h1 ha hb
  have HLV : Hid (∀ (w : World) (i : Nat), i ≤ h → Calls Try.prog 17 #[.int .i64 (bat h a i : Nat)] w fun e w' => e = .returned (.int .i64 (i : Nat)) ∧ w' = w) := by
    intro w i hi
    obtain ⟨q1, q2, q3, _⟩ := bat_facts h1 ha hi
    have := level_any w (bat h a i : Nat) (by omega)
    rw [show lvlI ((bat h a i : Nat) : Int) = (i : Int) by simp [lvlI, q1]] at this
    exact this
  have HO1 : Hid (∀ (w : World) (i : Nat), i ≤ h → Calls Try.prog 19 #[.int .i64 h, .int .i64 (bat h a i : Nat), .int .i64 a] w fun e w' => e = .returned (.bool true) ∧ ∃ n, w' = w.drewN n) := by
    intro w i hi
    have := on_any w h (bat h a i : Nat) a
    rw [on_own h1 ha hi] at this
    exact this
  have HO2 : Hid (∀ (w : World) (i : Nat), i ≤ h → Calls Try.prog 19 #[.int .i64 h, .int .i64 (bat h b i : Nat), .int .i64 a] w fun e w' => e = .returned (.bool (decide ((i : Int) ≤ shr h a b))) ∧ ∃ n, w' = w.drewN n) := by
    intro w i hi
    have := on_any w h (bat h b i : Nat) a
    rw [on_other h1 ha hb hi] at this
    exact this
  have HST : Hid ((shr h a b = h ↔ a = b) ∧ 0 ≤ shr h a b ∧ shr h a b ≤ h) := ⟨shr_top h1 ha hb, shr_bounds h1 ha hb⟩
  have HSM : Hid (∀ i, i ≤ h → (bat h a i = bat h b i ↔ (i : Int) ≤ shr h a b)) := fun i hi => same_iff h1 (by omega) (by omega) hi
  have HBF : Hid (∀ i, i + 1 ≤ h → ((bat h a (i + 1) : Nat) - 1 : Int) / 2 = (bat h a i : Nat) ∧ 0 < bat h a (i + 1)) := by
    intro i hi
    obtain ⟨q1, q2⟩ := (bat_facts h1 ha (show i ≤ h by omega)).2.2.2 hi
    omega
  have HB7 : Hid (∀ i, i ≤ h → bat h a i ≤ 126 ∧ bat h b i ≤ 126) := fun i hi => ⟨(bat_facts h1 ha hi).2.2.1, (bat_facts h1 hb hi).2.2.1⟩
  have HGA : Hid ((path h a).length = h + 1 ∧ ∀ k, k ≤ h → (path h a).getD k 0 = (bat h a k : Int)) := ⟨path_length h a, fun k hk => path_at h a k hk⟩
  have HGB : Hid ((path h b).length = h + 1 ∧ ∀ k, k ≤ h → (path h b).getD k 0 = (bat h b k : Int)) := ⟨path_length h b, fun k hk => path_at h b k hk⟩
  have HB0 : Hid (bat h a 0 = 0 ∧ ((bat h a h : Nat) : Int) = ((2 ^ h : Nat) : Int) - 1 + a) := by
    refine ⟨bat_zero ha, ?_⟩
    rw [bat_top]
    omega
  have HBA : Hid (∀ l k, l < 2 ^ h → k ≤ h → bat h l k < 2 * 2 ^ h - 1) := fun l k hl hk => (bat_facts h1 hl hk).2.1
  have HUY : Hid (ls.all (okL h) = true → uni h ls = rise (wys h ls) (2 * 2 ^ h - 1)) := by
    intro e
    rw [uni_yes e, bks_of h1, Int.toNat_natCast]
  have HML : Hid (∀ S, (mrk h S).length = 2 * 2 ^ h - 1) := fun S => mrk_length h S
  have HMG : Hid (∀ (S : List Int) (b : Nat), b < 2 * 2 ^ h - 1 → (mrk h S)[b]? = some (S.contains (b : Int))) := fun S b hb => mrk_get h S b hb
  have HMA : Hid (∀ (S : List Int) (b : Nat), b < 2 * 2 ^ h - 1 → (mrk h S).set b true = mrk h (S ++ [(b : Int)])) := fun S b hb => mrk_add h S b hb
  have HM0 : Hid (mrk h [] = List.replicate (2 * 2 ^ h - 1) false) := mrk_nil h
  have HOK : Hid (∀ U : Int, 0 ≤ U → U < ((2 ^ h : Nat) : Int) → okL h U = true ∧ ∃ L : Nat, U = L ∧ L < 2 ^ h ∧ pathI h U = path h L) := by
    intro U u0 u1
    obtain ⟨L, rfl⟩ : ∃ L : Nat, U = L := ⟨U.toNat, by omega⟩
    have hL : L < 2 ^ h := by omega
    exact ⟨okL_of h1 hL, L, rfl, hL, pathI_of h1 hL⟩
  obtain ⟨N, hN⟩ : ∃ N, 2 * 2 ^ h - 1 = N := ⟨_, rfl⟩
  rw [hN] at H11 HBA HUY HML HMG HMA HM0
  obtain ⟨V, hV⟩ : ∃ V, 2 ^ h = V := ⟨_, rfl⟩
  rw [hV] at H13 HPI HB0 HBA HOK ha hb
  obtain ⟨S, hS⟩ : ∃ S, shr h a b = S := ⟨_, rfl⟩
  simp only [hS] at HSH HO2 HST HSM
  have n1 : N ≤ 127 := by omega
  have v1 : V ≤ 64 := by omega
  have n1i : (N : Int) ≤ 127 := by omega
  have v1i : (V : Int) ≤ 64 := by omega
  have v0i : 1 ≤ (V : Int) := by omega
  have i1 : (h : Int) ≤ 6 := by omega
  have a1 : (a : Int) < V := by omega
  have b1 : (b : Int) < V := by omega
  clear hN hV hS hp ha hb A3
  go_enter Try.func5, Try.ntmps5
  go_wp2_with fail
  refine (first_any _).mono ?_
  rintro e w1 ⟨rfl, k1⟩
  go_wp2_with fail
  refine (H10.out _).mono ?_
  rintro e w2 ⟨rfl, rfl⟩
  go_wp2_with fail
  refine (H13.out _).mono ?_
  rintro e w2 ⟨rfl, rfl⟩
  go_wp2_with fail
  refine (H13.out _).mono ?_
  rintro e w2 ⟨rfl, rfl⟩
  go_wp2_with fail
  refine (HPA.out _).mono ?_
  rintro e w3 ⟨v3, rfl, N3⟩
  obtain ⟨xa, ca, rfl⟩ := N3.shape
  rw [HGA.out.1] at N3 ⊢
  go_wp2_with fail
  refine (HPB.out _).mono ?_
  rintro e w4 ⟨v4, rfl, N4⟩
  obtain ⟨xb, cb, rfl⟩ := N4.shape
  rw [HGB.out.1] at N4 ⊢
  have HLA : Hid (Lies (fun _ => True) w4 (.slice xa (h + 1) ca) ((path h a).map (Value.int .i64))) := (N3.lies.mono (fun _ _ => trivial)).chg N4.2 (fun _ _ h => h)
  have HLB : Hid (Lies (fun _ => True) w4 (.slice xb (h + 1) cb) ((path h b).map (Value.int .i64))) := N4.lies.mono (fun _ _ => trivial)
  have HK4 : Hid (Chg no w w4) := (k1.then N3.2).then N4.2
  clear k1 N3 N4 HPA HPB H10
  obtain ⟨y, rfl, c0⟩ := lies_at HLA.out 0 (by rw [HGA.out.1]; omega)
  obtain ⟨y', hy', ch⟩ := lies_at HLA.out h (by rw [HGA.out.1]; omega)
  cases hy'
  rw [HGA.out.2 0 (by omega), HB0.out.1] at c0
  rw [HGA.out.2 h (by omega), HB0.out.2] at ch
  have c0' : w4.cell? y = some (.int .i64 0) := by
    have e : y.add 0 = y := by simp [Addr.add]
    rw [e] at c0
    exact c0
  go_wp2_with fail
  go_quiet ((go_at_call 13; exact Calls.quiet_of_same (H13.out _)))
  obtain ⟨w5, hw5⟩ : ∃ w5, w4.drewN nq = w5 := ⟨_, rfl⟩
  have HK5 : Hid (Chg no w w5) := by rw [← hw5]; exact HK4.out.drewN _
  have HLA5 : Hid (Lies (fun _ => True) w5 (.slice (some y) (h + 1) ca) ((path h a).map (Value.int .i64))) := by rw [← hw5]; exact HLA.out.chg ((Chg.refl no w4).drewN _) (fun _ _ h => h)
  have HLB5 : Hid (Lies (fun _ => True) w5 (.slice xb (h + 1) cb) ((path h b).map (Value.int .i64))) := by rw [← hw5]; exact HLB.out.chg ((Chg.refl no w4).drewN _) (fun _ _ h => h)
  simp only [hw5]
  clear HLA HLB HK4 hw5 c0 ch c0' HB0
  go_wp2_with fail
  refine (HSH.out _).mono ?_
  rintro e w6 ⟨rfl, rfl⟩
  clear HSH
  go_wp2_with fail
  go_loopw [12] (fun i wr => ∃ k : Nat, k ≤ h + 1 ∧ i = .int .i64 (k : Int) ∧ Chg no w6 wr) (fun i _ => h + 1 - (intOf i).toNat)
  case atStart => exact ⟨0, by omega, rfl, Chg.refl _ _⟩
  case round =>
    obtain ⟨k, hk, rfl, hC⟩ := hrel
    by_cases hkh : k < h + 1
    · have hki : (k : Int) ≤ h := by omega
      have hki2 : (k : Int) < (h : Int) + 1 := by omega
      have HL1 : Hid (∀ w, Calls Try.prog 17 #[.int .i64 (bat h a k : Nat)] w fun e w' => e = .returned (.int .i64 (k : Nat)) ∧ w' = w) := fun w => HLV.out w k (by omega)
      have HOA : Hid (∀ w, Calls Try.prog 19 #[.int .i64 h, .int .i64 (bat h a k : Nat), .int .i64 a] w fun e w' => e = .returned (.bool true) ∧ ∃ n, w' = w.drewN n) := fun w => HO1.out w k (by omega)
      have HOB : Hid (∀ w, Calls Try.prog 19 #[.int .i64 h, .int .i64 (bat h b k : Nat), .int .i64 a] w fun e w' => e = .returned (.bool (decide ((k : Int) ≤ S))) ∧ ∃ n, w' = w.drewN n) := fun w => HO2.out w k (by omega)
      obtain ⟨y1, hy1, c1⟩ := lies_at (HLA5.out.chg hC (fun _ _ h => h)) k (by rw [HGA.out.1]; exact hkh)
      cases hy1
      obtain ⟨y2, hy2, c2⟩ := lies_at (HLB5.out.chg hC (fun _ _ h => h)) k (by rw [HGB.out.1]; exact hkh)
      subst hy2
      rw [HGA.out.2 k (by omega)] at c1
      rw [HGB.out.2 k (by omega)] at c2
      have hsm := HSM.out k (by omega)
      obtain ⟨q1, q2⟩ := HB7.out k (by omega)
      by_cases hk0 : k = 0
      · subst hk0
        have hS0 : (((0 : Nat) : Int) ≤ S) := by have := HST.out.2.1; omega
        have hUW := hsm.2 hS0
        rw [← hUW] at c2 HOB
        rw [decide_eq_true hS0] at HOB
        obtain ⟨U, hU⟩ : ∃ U : Int, ((bat h a 0 : Nat) : Int) = U := ⟨_, rfl⟩
        rw [hU] at c1 c2 HL1 HOA HOB
        have c1' : wr.cell? y = some (.int .i64 U) := by
          have e : y.add 0 = y := by simp [Addr.add]
          rw [e] at c1
          exact c1
        have c2' : wr.cell? y2 = some (.int .i64 U) := by
          have e : y2.add 0 = y2 := by simp [Addr.add]
          rw [e] at c2
          exact c2
        have hS0' : (0 : Int) ≤ S := by omega
        clear hsm hUW hU hS0
        go_wp2_with fail
        go_quiet ((first | (go_at_call 17; exact Calls.quiet_of_same (HL1.out _)) | (go_at_call 19; exact Calls.quiet_of (HOA.out _))))
        go_wp2
        go_roundw
        case rel => exact ⟨1, by omega, by go_num, hC.drewN _⟩
        case measure => simp [intOf]
      · obtain ⟨j, hkj⟩ : ∃ j, k = j + 1 := ⟨k - 1, by omega⟩
        obtain ⟨y3, hy3, c3⟩ := lies_at (HLA5.out.chg hC (fun _ _ h => h)) j (by rw [HGA.out.1]; omega)
        cases hy3
        rw [HGA.out.2 j (by omega)] at c3
        obtain ⟨f1, f2⟩ := HBF.out j (by omega)
        rw [← hkj] at f1 f2
        obtain ⟨U, hU⟩ : ∃ U : Int, ((bat h a k : Nat) : Int) = U := ⟨_, rfl⟩
        obtain ⟨W, hW⟩ : ∃ W : Int, ((bat h b k : Nat) : Int) = W := ⟨_, rfl⟩
        obtain ⟨R, hR⟩ : ∃ R : Int, ((bat h a j : Nat) : Int) = R := ⟨_, rfl⟩
        have u0 : 0 < U := by omega
        have u1 : U ≤ 126 := by omega
        have hsm2 : U = W ↔ (k : Int) ≤ S := by rw [← hsm]; omega
        have hjt : ((k : Int) - 1).toNat = j := by omega
        have hk1 : 0 < k := by omega
        have hk2 : decide (0 < k) = true := decide_eq_true hk1
        rw [hU] at c1 HL1 HOA f1
        rw [hW] at c2 HOB
        rw [hR] at c3 f1
        by_cases hS1 : (k : Int) ≤ S
        · have hUW := hsm2.2 hS1
          subst hUW
          clear hsm hsm2 hU hW hR q1 q2 f2 HOB hkj hk0
          go_wp2_with fail
          go_quiet ((first | (go_at_call 17; exact Calls.quiet_of_same (HL1.out _)) | (go_at_call 19; exact Calls.quiet_of (HOA.out _))))
          go_wp2
          go_roundw
          case rel => exact ⟨k + 1, by omega, by go_num, hC.drewN _⟩
          case measure => simp [intOf]; omega
        · have hUW : ¬ U = W := fun e => hS1 (hsm2.1 e)
          have hUW1 : (U == W) = false := by simpa using hUW
          rw [decide_eq_false hS1] at HOB
          have hS1' : S < (k : Int) := by omega
          have hd : decide ((k : Int) ≤ S) = false := decide_eq_false hS1
          clear hsm hsm2 hU hW hR q1 q2 f2 hS1 hkj hk0
          go_wp2_with fail
          go_quiet ((first | (go_at_call 17; exact Calls.quiet_of_same (HL1.out _)) | (go_at_call_of 19 U; exact Calls.quiet_of (HOA.out _)) | (go_at_call_of 19 W; exact Calls.quiet_of (HOB.out _))))
          go_wp2
          go_roundw
          case rel => exact ⟨k + 1, by omega, by go_num, hC.drewN _⟩
          case measure => simp [intOf]; omega
    · obtain rfl : k = h + 1 := by omega
      clear HSM HBF HB7 HGA HGB HLV HO1 HO2 HLA5 HLB5
      have HK7 : Hid (Chg no w wr) := HK5.out.then hC
      clear hC HK5
      go_wp2_with fail
      refine (H11.out _).mono ?_
      rintro e w8 ⟨rfl, rfl⟩
      go_wp2_with (at_make; refine wpList_make_full _ rfl _ _ 36 rfl w8.heap.size 4 i0 (.bool false) 1 Try.underlying36 hi hz0 hz1 .i64 .i64 N N N rfl rfl rfl rfl ?c1 ?c2 ?c3 ?_)
      case c1 => rw [hz2]; omega
      case c2 => unfold maxLen; omega
      case c3 => omega
      intro w9 hown hg
      have HN0 : Hid (Mk w8 (mrk h (wys h (ls.take 0))) (.slice (some ⟨w8.heap.size, 0, none⟩) N N) w9) := by
        refine ⟨?_, (Chg.refl no w8).grown hg (by simp)⟩
        rw [HML.out]
        show w9.ownsRow w8.heap.size 4 1 (.slice (some ⟨w8.heap.size, 0, none⟩) N N) N ((mrk h []).map Value.bool)
        rw [HM0.out, List.map_replicate]
        rw [toList_madeCells_one] at hown
        exact hown
      obtain ⟨g, hgg⟩ : ∃ g, w8.heap.size = g := ⟨_, rfl⟩
      rw [hgg] at HN0 ⊢
      clear hown hg H11 HM0
      go_wp2_with fail
      go_loopw [14] (fun i wr => ∃ j : Nat, j ≤ ls.length ∧ i = .int .i64 (j : Int) ∧ (ls.take j).all (okL h) = true ∧ Mk w8 (mrk h (wys h (ls.take j))) (.slice (some ⟨g, 0, none⟩) N N) wr) (fun i _ => ls.length - (intOf i).toNat)
      case atStart => exact ⟨0, by omega, rfl, rfl, HN0.out⟩
      case round =>
        clear HN0
        obtain ⟨j, hjl, rfl, hall, hM⟩ := hrel
        by_cases hjn : j < ls.length
        · have hji : (j : Int) < ls.length := by omega
          obtain ⟨x, rfl, c1⟩ := lies_at (HA.out wr (HK7.out.then hM.2)) j hjn
          have HAL : Hid (okL h (ls.getD j 0) = true → (ls.take (j + 1)).all (okL h) = true) := fun e => all_take hjn hall e
          have HWS : Hid (wys h (ls.take (j + 1)) = wys h (ls.take j) ++ pathI h (ls.getD j 0)) := wys_snoc h ls j hjn
          have HAW : Hid (∀ w', Chg no wr w' → w'.cell? (x.add j) = some (.int .i64 (ls.getD j 0))) := fun w' k => k.cell c1 id
          obtain ⟨U, hU⟩ : ∃ U : Int, ls.getD j 0 = U := ⟨_, rfl⟩
          rw [hU] at c1 HAL HWS HAW
          obtain ⟨S2, hS2⟩ : ∃ S2, wys h (ls.take j) = S2 := ⟨_, rfl⟩
          rw [hS2] at hM HWS
          have HM : Hid (Mk w8 (mrk h S2) (.slice (some ⟨g, 0, none⟩) N N) wr) := hM
          clear hU hS2 hall hM
          have hcs : U < 0 ∨ (0 ≤ U ∧ (V : Int) ≤ U) ∨ (0 ≤ U ∧ U < V) := by omega
          rcases hcs with u0 | ⟨u0, u1⟩ | ⟨u0, u1⟩
          · go_wp2_with fail
            go_quiet ((go_at_call 13; exact Calls.quiet_of_same (H13.out _)))
            have KQ := (HK7.out.then HM.out.2).drewN nq
            go_wp2_with fail
            refine (first_any _).mono ?_
            rintro e w10 ⟨rfl, k10⟩
            go_wp2
            go_ret
            exact ⟨rfl, (KQ.then k10).below⟩
          · go_wp2_with fail
            go_quiet ((go_at_call 13; exact Calls.quiet_of_same (H13.out _)))
            have KQ := (HK7.out.then HM.out.2).drewN nq
            go_wp2_with fail
            refine (first_any _).mono ?_
            rintro e w10 ⟨rfl, k10⟩
            go_wp2
            go_ret
            exact ⟨rfl, (KQ.then k10).below⟩
          · obtain ⟨kU, L, rfl, hL, hPI⟩ := HOK.out U u0 u1
            have HA3 : Hid ((ls.take (j + 1)).all (okL h) = true) := HAL.out kU
            rw [hPI] at HWS
            have HPL := HPI.out
            have HL : Hid (L < V) := hL
            clear HAL kU hPI
            go_wp2_with fail
            go_quiet ((go_at_call 13; exact Calls.quiet_of_same (H13.out _)))
            obtain ⟨wz, hwz⟩ : ∃ wz, wr.drewN nq = wz := ⟨_, rfl⟩
            have kz : Chg no wr wz := by rw [← hwz]; exact (Chg.refl no wr).drewN _
            have c1z := HAW.out wz kz
            have HMz : Hid (Mk w8 (mrk h S2) (.slice (some ⟨g, 0, none⟩) N N) wz) := HM.out.chg kz
            simp only [hwz]
            clear hwz kz c1 HM HAW
            go_wp2_with fail
            refine (HPL wz L HL.out).mono ?_
            rintro e w10 ⟨v10, rfl, N10⟩
            obtain ⟨xp, cp, rfl⟩ := N10.shape
            have HP : Hid ((path h L).length = h + 1 ∧ ∀ k, k ≤ h → (path h L).getD k 0 = (bat h L k : Int)) := ⟨path_length h L, fun k hk => path_at h L k hk⟩
            rw [HP.out.1] at N10 ⊢
            have hgl := (HMz.out.1.lt g rfl).2
            obtain ⟨P, hP⟩ : ∃ P, path h L = P := ⟨_, rfl⟩
            rw [hP] at N10 HP HWS
            have HCI : Hid (Mk w8 (mrk h (S2 ++ P.take 0)) (.slice (some ⟨g, 0, none⟩) N N) w10 ∧ Lies (fun k => k ≠ g) w10 (.slice xp (h + 1) cp) (P.map (Value.int .i64))) := by
              rw [List.take_zero, List.append_nil]
              exact ⟨HMz.out.chg N10.2, N10.lies.mono (fun x hx e => by omega)⟩
            clear hP N10 HMz HPL hgl c1z
            go_wp2_with fail
            go_loopw [16] (fun i wr => ∃ k : Nat, k ≤ h + 1 ∧ i = .int .i64 (k : Int) ∧ Mk w8 (mrk h (S2 ++ P.take k)) (.slice (some ⟨g, 0, none⟩) N N) wr ∧ Lies (fun k => k ≠ g) wr (.slice xp (h + 1) cp) (P.map (Value.int .i64))) (fun i _ => h + 1 - (intOf i).toNat)
            case atStart => exact ⟨0, by omega, rfl, HCI.out⟩
            case round =>
              clear HCI
              obtain ⟨k, hk, rfl, hM, hLx⟩ := hrel
              by_cases hkh : k < h + 1
              · have hki : (k : Int) < (h : Int) + 1 := by omega
                have hbN := HBA.out L k HL.out (by omega)
                obtain ⟨yx, rfl, c1⟩ := lies_at hLx k (by rw [HP.out.1]; exact hkh)
                rw [HP.out.2 k (by omega)] at c1
                obtain ⟨gg, hg1, hgb, c2, f2⟩ := owns_at (k := bat h L k) (by have := hM.1; rw [HML.out] at this; exact this) (by rw [List.getElem?_map, HMG.out _ _ hbN]; rfl)
                cases hg1
                have hM3 : Mk w8 (mrk h (S2 ++ P.take (k + 1))) (.slice (some ⟨g, 0, none⟩) N N) (wr.setCell ⟨g, bat h L k, none⟩ (.bool true)) := by
                  rw [take_snoc P k (by rw [HP.out.1]; exact hkh), ← List.append_assoc, HP.out.2 k (by omega), ← HMA.out _ _ hbN]
                  exact hM.set true
                have hLA : Lies (fun k => k ≠ g) (wr.setCell ⟨g, bat h L k, none⟩ (.bool true)) (.slice (some yx) (h + 1) cp) (P.map (Value.int .i64)) :=
                  hLx.chg ((Chg.refl (fun x => x = g) wr).setCell _ _ (.inl rfl)) (fun x hx e => hx e)
                obtain ⟨U, hU⟩ : ∃ U : Nat, bat h L k = U := ⟨_, rfl⟩
                obtain ⟨B, hB⟩ : ∃ B : Bool, (S2 ++ P.take k).contains ((bat h L k : Nat) : Int) = B := ⟨_, rfl⟩
                rw [hB] at c2
                rw [hU] at hM3 hLA hbN c1 c2 f2
                have hbi : (U : Int) < N := by omega
                have HX : Hid (Mk w8 (mrk h (S2 ++ P.take (k + 1))) (.slice (some ⟨g, 0, none⟩) N N) (wr.setCell ⟨g, U, none⟩ (.bool true)) ∧ Lies (fun k => k ≠ g) (wr.setCell ⟨g, U, none⟩ (.bool true)) (.slice (some yx) (h + 1) cp) (P.map (Value.int .i64))) := ⟨hM3, hLA⟩
                clear hM hM3 hLA hLx hU hB
                go_wp2
                go_roundw
                case rel => exact ⟨k + 1, by omega, by go_num, HX.out⟩
                case measure => simp [intOf]; omega
              · obtain rfl : k = h + 1 := by omega
                rw [List.take_of_length_le (by rw [HP.out.1]; omega), ← HWS.out] at hM
                have HX : Hid (Mk w8 (mrk h (wys h (ls.take (j + 1)))) (.slice (some ⟨g, 0, none⟩) N N) wr) := hM
                clear hM hLx
                go_wp2
                go_roundw
                case rel => exact ⟨j + 1, by omega, by go_num, HA3.out, HX.out⟩
                case measure => simp [intOf]; omega
        · obtain rfl : j = ls.length := by omega
          have hji : (ls.length : Int) ≤ (ls.length : Int) := by omega
          rw [List.take_length] at hall hM
          have HUE : Hid (uni h ls = rise (wys h ls) N) := HUY.out hall
          obtain ⟨S2, hS2⟩ : ∃ S2, wys h ls = S2 := ⟨_, rfl⟩
          rw [hS2] at HUE hM
          have hglt := (hM.1.lt g rfl).2
          have HM : Hid (Mk w8 (mrk h S2) (.slice (some ⟨g, 0, none⟩) N N) wr) := hM
          have HNN : Hid (New wr (rise S2 0) (.slice none 0 0) wr) := New.nil wr
          clear hS2 hall hM HPI HOK HBA HMA H13
          go_wp2_with fail
          obtain ⟨w12, hw12⟩ : ∃ w12, wr = w12 := ⟨_, rfl⟩
          rw [hw12] at HM HNN hglt ⊢
          clear hw12
          go_loopw [17, 18] (fun vb i wr => ∃ b : Nat, b ≤ N ∧ i = .int .i64 (b : Int) ∧ New w12 (rise S2 b) vb wr) (fun _ i _ => N - (intOf i).toNat)
          case atStart => exact ⟨0, by omega, rfl, HNN.out⟩
          case round =>
            clear HNN
            obtain ⟨c, hcN, rfl, hW⟩ := hrel
            obtain ⟨xw, cw, rfl⟩ := hW.shape
            by_cases hbn : c < N
            · have hbi : (c : Int) < N := by omega
              have hM2 := HM.out.chg hW.2
              obtain ⟨gg, hg1, hgb, c2, f2⟩ := owns_at (k := c) (by have := hM2.1; rw [HML.out] at this; exact this) (by rw [List.getElem?_map, HMG.out _ _ hbn]; rfl)
              cases hg1
              have HR : Hid (rise S2 (c + 1) = if S2.contains (c : Int) = true then rise S2 c ++ [(c : Int)] else rise S2 c) := rise_succ S2 c
              have hrl := rise_length S2 c
              obtain ⟨R, hR⟩ : ∃ R, rise S2 c = R := ⟨_, rfl⟩
              rw [hR] at HR hW hrl ⊢
              cases hB : S2.contains (c : Int)
              · rw [hB] at c2 HR
                have HN2 : Hid (New w12 (rise S2 (c + 1)) (.slice xw R.length cw) wr) := by rw [HR.out]; exact hW
                clear hB hR hW hM2 HR
                go_wp2
                go_roundw
                case rel => exact ⟨c + 1, by omega, by go_num, HN2.out⟩
                case measure => simp [intOf]; omega
              · rw [hB] at c2 HR
                have HE : Hid (R ++ [(c : Int)] = rise S2 (c + 1)) := by rw [HR.out]; rfl
                have HN2 : Hid (New w12 R (.slice xw R.length cw) wr) := hW
                have HL2 : Hid (Lies (fun _ => True) (wr.alloc (.cells #[.int .i64 (c : Int)] 3)) (.slice (some ⟨wr.heap.size, 0, none⟩) 1 1) ([(c : Int)].map (Value.int .i64))) := (lies_block (zs := [.int .i64 (c : Int)]) (heap_alloc_new wr _) 1).mono (fun _ _ => trivial)
                clear hB hR hW hM2 HR
                go_wp2_with (at_builtin; refine wpList_append_grew rfl _ _ 27 rfl 3 j0 (.int .i64 0) 8 Try.underlying27 hj hy0 hy1 hy2 rfl (.slice xw R.length cw) R.length (R.map (Value.int .i64)) rfl (owns_base (HN2.out.chg ((Chg.refl no wr).alloc _)).1 (Nat.zero_le _)) (fun _ => True) (.slice (some ⟨wr.heap.size, 0, none⟩) 1 1) ([(c : Int)].map (Value.int .i64)) rfl HL2.out (ints_oneCell _ _) (by simp; unfold maxLen; omega) (by simp; omega) ?_; intro v6 w6 G6)
                have hN6 := (HN2.out.chg ((Chg.refl no wr).alloc _)).grew G6 HE.out
                obtain ⟨a6, c6, rfl⟩ := hN6.shape
                clear G6 HN2 HL2
                go_wp2
                go_roundw
                case rel => exact ⟨c + 1, by omega, by go_num, hN6⟩
                case measure => simp [intOf]; omega
            · obtain rfl : c = N := by omega
              have hbi : (c : Int) ≤ (c : Int) := by omega
              have HKE : Hid (Chg no w wr) := (HK7.out.then HM.out.2).then hW.2
              have hrl := rise_length S2 c
              have hu := HUE.out
              obtain ⟨R, hR⟩ : ∃ R, rise S2 c = R := ⟨_, rfl⟩
              rw [hR] at hW hrl hu ⊢
              have HW : Hid (New w12 R (.slice xw R.length cw) wr) := hW
              have HUN : Hid (∀ (J : Nat → Prop) (w : World) (v : Value), Lies J w v (ls.map (Value.int .i64)) → Calls Try.prog 24 #[.int .i64 h, v] w fun e w' => ∃ v', e = .returned v' ∧ New w R v' w') := by
                intro J w v hv
                have := union_any w h v ls hv (by omega)
                rw [hu] at this
                exact this
              have HST2 : Hid (S = h ↔ a = b) := HST.out.1
              clear hR hW hu HM HUE HUY HML HMG HST HK7
              go_wp2_with fail
              refine (first_any _).mono ?_
              rintro e w13 ⟨rfl, k13⟩
              have K13 := HKE.out.then k13
              have W13 := HW.out.chg k13
              have HUC := HUN.out _ _ _ (HA.out _ K13)
              clear k13 HKE HW HUN
              go_wp2_with fail
              refine HUC.mono ?_
              rintro e w14 ⟨v14, rfl, N14⟩
              obtain ⟨x14, c14, rfl⟩ := N14.shape
              have HI := ints_same w14 _ _ R N14.lies (W13.chg N14.2).lies (by omega)
              have K14 := K13.then N14.2
              clear HUC N14 K13 W13
              go_wp2_with fail
              refine HI.mono ?_
              rintro e w15 ⟨rfl, n15, rfl⟩
              have K15 := (K14.drewN n15).below
              clear HI K14
              by_cases hab : a = b
              · have hSh := HST2.out.2 hab
                subst hab hSh
                go_wp2
                go_ret
                exact ⟨rfl, K15⟩
              · have hSh : ¬ S = h := fun e => hab (HST2.out.1 e)
                have q1 : ((a : Int) == (b : Int)) = false := by simp; omega
                have q2 : (S == (h : Int)) = false := by simp; omega
                have q3 : (a == b) = false := by simpa using hab
                have q4 : ¬ ((a : Int) = b) := by omega
                go_wp2
                go_ret
                exact ⟨rfl, K15⟩

theorem walk (w : World) (a0 a1 a2 : Int) (x : Option Addr) (l c : Nat) (z : List Int) (w0 : (Lit.int .i64 a0).wf = true) (w1 : (Lit.int .i64 a1).wf = true) (w2 : (Lit.int .i64 a2).wf = true) (A3 : Lies (Old w) w (.slice x l c) (z.map (Value.int .i64))) (k3 : l ≤ c) :
    Calls Try.prog 5 #[.int .i64 a0, .int .i64 a1, .int .i64 a2, .slice x l c] w fun e w' => e = .returned (.bool true) ∧ Below w.heap.size w w' := by
  by_cases hh : okH a0 = false ∨ a1 < 0 ∨ a2 < 0 ∨ lvs a0 ≤ a1 ∨ lvs a0 ≤ a2 ∨ 60 < l
  · exact early w a0 a1 a2 x l c hh
  · have hk : okH a0 = true := by
      cases hk : okH a0
      · exact (hh (.inl hk)).elim
      · rfl
    have h0 := (okH_iff a0).1 hk
    obtain ⟨H, rfl⟩ : ∃ H : Nat, a0 = H := ⟨a0.toNat, by omega⟩
    rw [lvs_of (by omega)] at hh
    obtain ⟨A, rfl⟩ : ∃ A : Nat, a1 = A := ⟨a1.toNat, by omega⟩
    obtain ⟨B, rfl⟩ : ∃ B : Nat, a2 = B := ⟨a2.toNat, by omega⟩
    obtain ⟨a', c', hv, _⟩ := A3.slice
    rw [List.length_map] at hv
    cases hv
    exact late w H A B x c z A3 (by omega) (by omega) (by omega) (by omega)

theorem own : ownKnob Try.prog.godebug = none := by kernel_rfl
theorem laidOut : laidOutB Try.prog = true := by kernel_rfl

set_option maxRecDepth 100000 in
theorem lifted (os : Os) (started : os.Started) (H : Type) (enc : TypeId × Value → H) :
    ReturnsInHanded {} Try.checked os 5 .any (Rows.treePathsSpec.pre6 enc Try.prog Try.f5 Rows.treePathsRow.domain false) (Rows.treePathsSpec.post enc Try.prog Try.f5 false true false false) := by
  refine returnsInHanded_of_change (C := Try.checked) own started (by kernel_rfl) Try.func5
    (ChangeSpec.witness6 (enc := enc) (C := Try.checked) false ⟨#[], #[.int .i64 0, .int .i64 0, .int .i64 0, .slice none 0 0], []⟩ 8 (by kernel_rfl) (by kernel_rfl) (by kernel_rfl) (by kernel_rfl)) ?_
  intro W base args ds gs before hval0 hW hcnd _
  have hval : ∀ (j : Nat) t v, Try.f5.params[j]? = some t → args[j]? = some v → Value.okWide Try.prog W .any base t v := hval0
  have hW' := hW
  obtain ⟨p, q, hA0, hV, rfl, hfz, hnd⟩ := hW
  have hA : DataW.TrodAll enc Try.prog W 0 (fun _ => true) true Try.f5.params.toList args.toList ds p := hA0
  rw [Try.params5] at hA hval
  obtain ⟨v0, vs0, d0, ds0, p0, q0, hargs, rfl, rfl, h0, r0⟩ := trodAll_cons hA
  obtain ⟨v1, vs1, d1, ds1, p1, q1, rfl, rfl, rfl, h1, r1⟩ := trodAll_cons r0
  obtain ⟨v2, vs2, d2, ds2, p2, q2, rfl, rfl, rfl, h2, r2⟩ := trodAll_cons r1
  obtain ⟨v3, vs3, d3, ds3, p3, q3, rfl, rfl, rfl, h3, r3⟩ := trodAll_cons r2
  obtain ⟨rfl, rfl, rfl⟩ := trodAll_nil r3
  obtain rfl : args = #[v0, v1, v2, v3] := by cases args; simp_all
  obtain ⟨rfl, rfl⟩ := trodVars_none hV
  obtain ⟨a0, rfl, rfl, rfl, w0⟩ := open_int Try.underlying3 (hval 0 3 v0 rfl rfl) h0
  obtain ⟨a1, rfl, rfl, rfl, w1⟩ := open_int Try.underlying3 (hval 1 3 v1 rfl rfl) h1
  obtain ⟨a2, rfl, rfl, rfl, w2⟩ := open_int Try.underlying3 (hval 2 3 v2 rfl rfl) h2
  obtain ⟨a3, len3, cap3, rfl⟩ := okWide_slice Try.underlying27 (hval 3 27 v3 rfl rfl)
  have k3 := h3
  have lt3 : ∀ x ∈ p3, x.block < W.heap.size := by obtain ⟨m, hm⟩ := k3; exact DataW.trod_lt m _ _ _ hm
  have c3 : len3 ≤ cap3 := by obtain ⟨m, hm⟩ := k3; exact (open_cap Try.underlying27 hm).1
  obtain ⟨z3, w3⟩ := (by obtain ⟨fuel, hf⟩ := h3; exact open_nums hf : ∃ z : List Int, Lies (Old W) W (.slice a3 len3 cap3) (z.map (Value.int .i64)))
  clear hA0 hval0
  refine (walk W a0 a1 a2 a3 len3 cap3 z3 w0 w1 w2 w3 c3).mono fun e W' ⟨he, bel⟩ => ?_
  subst he
  exact ⟨_, rfl, _, _, _, [], _, [], hW', trodAll_mk1 (shut_bool Try.underlying4 _), (trodAll_cons_mk (shut_int Try.underlying3 w0) (trodAll_cons_mk (shut_int Try.underlying3 w1) (trodAll_cons_mk (shut_int Try.underlying3 w2) (trodAll_cons_mk (Below.trod laidOut (by kernel_rfl) (of_decide_eq_true (by kernel_rfl)) k3 bel lt3) trodAll_mk0)))), rfl, bel.frame _, fun h => by cases h⟩

theorem over : Rows.treePathsRow.holds Try.pinned (OpenSpec.ofChange Rows.treePathsSpec) :=
  OpenClaim.holds_of_wide 5 Try.f5 rfl rfl rfl rfl rfl rfl rfl ⟨rfl, rfl, rfl, rfl, rfl⟩ rfl rfl rfl rfl rfl (by kernel_rfl) Try.func5 (by kernel_rfl)
    (of_decide_eq_true (by kernel_rfl)) (by unfold Func.isWrapper; first | (rw [if_pos (by decide +kernel)]; kernel_rfl) | (rw [if_neg (by decide +kernel)]; exact ⟨rfl, rfl⟩))
    (fun os started H enc _ => lifted os started H enc)

theorem proved : Rows.TreePathsSaid := over
end Go.Proofs.Ytgdhbkhhholkgaa.treePaths
namespace Go.Proofs.Ytgdhbkhhholkgaa
theorem treePaths_holds : Rows.TreePathsSaid := treePaths.proved
#print axioms treePaths_holds
end Go.Proofs.Ytgdhbkhhholkgaa
