/- Contract of the document's Shared. -/
import Derived.Test.YtkaohjlnlgennaaCmp
namespace Go.Proofs.Ytkaohjlnlgennaa.st
open Go.ChangeShapes Go.WideShapes Go.ChangeAt Go.RowKit Go.Proofs.Ytkaohjlnlgennaa.hp Go.Proofs.Ytkaohjlnlgennaa.tm
set_option linter.unusedVariables false

theorem path_at (h l k : Nat) (hk : k ≤ h) : (path h l).getD k 0 = (bat h l k : Int) := by
  rw [List.getD_eq_getElem?_getD, path_get h l k hk]
  rfl

set_option maxHeartbeats 2000000 in
theorem rshared_some (w : World) (h a b : Nat) (h1 : h ≤ 6) (h2 : a < 2 ^ h) (h3 : b < 2 ^ h) :
    Calls Try.prog 37 #[.int .i64 h, .int .i64 a, .int .i64 b] w fun e w' => e = .returned (.int .i64 (shr h a b)) ∧ Chg no w w' := by
  have hp := (pow_le6 h h1).2
  have HA := rpath_some w h a h1 h2
  have HB := fun w => rpath_some w h b h1 h3
  have HS : Hid (∀ k, k ≤ h → (bat h a k = bat h b k ↔ (k : Int) ≤ shr h a b)) := fun k hk => same_iff h1 (by omega) (by omega) hk
  have hb := shr_bounds h1 h2 h3
  obtain ⟨S, hS⟩ : ∃ S, shr h a b = S := ⟨_, rfl⟩
  rw [hS] at HS hb ⊢
  have HPA : Hid (∀ k, k ≤ h → (path h a).getD k 0 = (bat h a k : Int)) := fun k hk => path_at h a k hk
  have HPB : Hid (∀ k, k ≤ h → (path h b).getD k 0 = (bat h b k : Int)) := fun k hk => path_at h b k hk
  have ea : (path h a).length = h + 1 := path_length h a
  have eb : (path h b).length = h + 1 := path_length h b
  obtain ⟨TA, hTA⟩ : ∃ T, path h a = T := ⟨_, rfl⟩
  obtain ⟨TB, hTB⟩ : ∃ T, path h b = T := ⟨_, rfl⟩
  rw [hTA] at HA HPA ea
  simp only [hTB] at HB HPB eb
  have EA : Hid (TA.length = h + 1) := ea
  have EB : Hid (TB.length = h + 1) := eb
  have i1 : (h : Int) ≤ 6 := by omega
  clear hS hTA hTB h2 h3 hp ea eb
  go_enter Try.func37, Try.ntmps37
  go_wp2_with fail
  refine HA.mono ?_
  rintro e w1 ⟨v1, rfl, N1⟩
  obtain ⟨xa, ca, rfl⟩ := N1.shape
  go_wp2_with fail
  refine (HB w1).mono ?_
  rintro e w2 ⟨v2, rfl, N2⟩
  obtain ⟨xb, cb, rfl⟩ := N2.shape
  have LA : Hid (Lies (fun _ => True) w2 (.slice xa TA.length ca) (TA.map (Value.int .i64))) := (N1.lies.mono (fun _ _ => trivial)).chg N2.2 (fun _ _ h => h)
  have LB : Hid (Lies (fun _ => True) w2 (.slice xb TB.length cb) (TB.map (Value.int .i64))) := N2.lies.mono (fun _ _ => trivial)
  have K2 : Hid (Chg no w w2) := N1.2.then N2.2
  rw [EA.out] at LA ⊢
  rw [EB.out] at LB ⊢
  clear HA HB N1 N2
  go_wp2_with fail
  go_loopw [9] (fun i wr => ∃ k n : Nat, k ≤ h + 1 ∧ i = .int .i64 ((k : Int) - 1) ∧ (k : Int) - 1 ≤ S ∧ wr = w2.drewN n) (fun i _ => (h + 1 : Int).toNat - (intOf i + 1).toNat)
  case atStart => exact ⟨0, 0, by omega, rfl, by omega, rfl⟩
  case round =>
    obtain ⟨k, n, hk, rfl, hkS, rfl⟩ := hrel
    by_cases hkh : k < h + 1
    · have hki : (k : Int) < (h : Int) + 1 := by omega
      obtain ⟨x, rfl, c1⟩ := lies_at LA.out k (by rw [EA.out]; exact hkh)
      obtain ⟨y, rfl, c2⟩ := lies_at LB.out k (by rw [EB.out]; exact hkh)
      rw [HPA.out k (by omega)] at c1
      rw [HPB.out k (by omega)] at c2
      have hsk := HS.out k (by omega)
      obtain ⟨U, hU⟩ : ∃ U : Int, (bat h a k : Int) = U := ⟨_, rfl⟩
      obtain ⟨V, hV⟩ : ∃ V : Int, (bat h b k : Int) = V := ⟨_, rfl⟩
      rw [hU] at c1
      rw [hV] at c2
      have hsk2 : U = V ↔ (k : Int) ≤ S := by rw [← hsk]; omega
      by_cases hc : (k : Int) ≤ S
      · have hUV := hsk2.2 hc
        subst hUV
        have g1 : decide ((k : Int) < (h : Int) + 1) = true := by simpa using hki
        clear hsk hsk2 hU hV
        go_wp2_with fail
        go_quiet (fail)
        go_wp2
        go_roundw
        case rel => exact ⟨k + 1, _, by omega, by go_num, by omega, by first | rfl | exact World.drewN_drewN _ _ _⟩
        case measure => simp [intOf]; omega
      · have hUV : ¬ U = V := fun e => hc (hsk2.1 e)
        have hUV1 : (U == V) = false := by simpa using hUV
        have hE : (k : Int) - 1 = S := by omega
        have g1 : decide ((k : Int) < (h : Int) + 1) = true := by simpa using hki
        have HE : Hid ((k : Int) - 1 = S) := hE
        clear hsk hsk2 hU hV hE
        go_wp2_with fail
        go_quiet (fail)
        go_wp2
        go_ret
        exact ⟨ret_int HE.out, (K2.out.drewN _).drewN _⟩
    · obtain rfl : k = h + 1 := by omega
      have HE : Hid ((((h + 1 : Nat) : Int)) - 1 = S) := by
        show (((h + 1 : Nat) : Int)) - 1 = S
        have := hb.2
        omega
      go_wp2_with fail
      go_quiet (fail)
      go_wp2
      go_ret
      exact ⟨ret_int HE.out, (K2.out.drewN _).drewN _⟩

set_option maxHeartbeats 2000000 in
theorem rshared_none (w : World) (h a b : Int) (hk : okL h a = false ∨ okL h b = false) :
    Calls Try.prog 37 #[.int .i64 h, .int .i64 a, .int .i64 b] w fun e w' => e = .returned (.int .i64 (-1)) ∧ Chg no w w' := by
  have HA := rpath_any w h a
  have HB := fun w => rpath_any w h b
  cases ka : okL h a
  · rw [pathI_none ka] at HA
    obtain ⟨TB, hTB⟩ : ∃ T, pathI h b = T := ⟨_, rfl⟩
    simp only [hTB] at HB
    clear hk ka hTB
    go_enter Try.func37, Try.ntmps37
    go_wp2_with fail
    refine HA.mono ?_
    rintro e w1 ⟨v1, rfl, N1⟩
    obtain ⟨xa, ca, rfl⟩ := N1.shape
    go_wp2_with fail
    refine (HB w1).mono ?_
    rintro e w2 ⟨v2, rfl, N2⟩
    obtain ⟨xb, cb, rfl⟩ := N2.shape
    have K2 : Hid (Chg no w w2) := N1.2.then N2.2
    simp only
    clear HA HB N1 N2
    go_wp2_with fail
    go_loopw [9] (fun i wr => i = .int .i64 (-1) ∧ wr = w2) (fun i _ => 0)
    case atStart => exact ⟨rfl, rfl⟩
    case round =>
      obtain ⟨rfl, rfl⟩ := hrel
      go_wp2_with fail
      go_quiet (fail)
      go_wp2
      go_ret
      exact ⟨rfl, K2.out.drewN _⟩
  · have kb : okL h b = false := by
      rcases hk with e | e
      · rw [ka] at e; cases e
      · exact e
    simp only [pathI_none kb] at HB
    obtain ⟨TA, hTA⟩ : ∃ T, pathI h a = T := ⟨_, rfl⟩
    have hl : 1 ≤ TA.length := by
      obtain ⟨H, L, rfl, rfl, h1, h2, _⟩ := okL_nat ka
      rw [← hTA, pathI_of h1 h2, path_length]
      omega
    rw [hTA] at HA
    have hli : (0 : Int) < TA.length := by omega
    have g1 : decide (0 < TA.length) = true := by simp; omega
    clear hk ka kb hTA
    go_enter Try.func37, Try.ntmps37
    go_wp2_with fail
    refine HA.mono ?_
    rintro e w1 ⟨v1, rfl, N1⟩
    obtain ⟨xa, ca, rfl⟩ := N1.shape
    go_wp2_with fail
    refine (HB w1).mono ?_
    rintro e w2 ⟨v2, rfl, N2⟩
    obtain ⟨xb, cb, rfl⟩ := N2.shape
    have K2 : Hid (Chg no w w2) := N1.2.then N2.2
    simp only [List.length_nil]
    clear HA HB N1 N2
    go_wp2_with fail
    go_loopw [9] (fun i wr => i = .int .i64 (-1) ∧ wr = w2) (fun i _ => 0)
    case atStart => exact ⟨rfl, rfl⟩
    case round =>
      obtain ⟨rfl, rfl⟩ := hrel
      go_wp2_with fail
      go_quiet (fail)
      go_wp2
      go_ret
      exact ⟨rfl, K2.out.drewN _⟩

theorem rshared_any (w : World) (h a b : Int) :
    Calls Try.prog 37 #[.int .i64 h, .int .i64 a, .int .i64 b] w fun e w' => e = .returned (.int .i64 (shI h a b)) ∧ Chg no w w' := by
  by_cases hk : okL h a = true ∧ okL h b = true
  · obtain ⟨ka, kb⟩ := hk
    obtain ⟨H, A, rfl, rfl, h1, h2, _⟩ := okL_nat ka
    obtain ⟨H', B, e, rfl, h3, h4, _⟩ := okL_nat kb
    obtain rfl : H = H' := by omega
    have : shI H A B = shr H A B := by
      unfold shI
      rw [if_pos ⟨ka, kb⟩, Int.toNat_natCast, Int.toNat_natCast, Int.toNat_natCast]
    rw [this]
    exact rshared_some w H A B h1 h2 h4
  · have : shI h a b = -1 := by unfold shI; rw [if_neg hk]
    rw [this]
    refine rshared_none w h a b ?_
    cases ka : okL h a
    · exact .inl rfl
    · cases kb : okL h b
      · exact .inr rfl
      · exact (hk ⟨ka, kb⟩).elim

end Go.Proofs.Ytkaohjlnlgennaa.st
