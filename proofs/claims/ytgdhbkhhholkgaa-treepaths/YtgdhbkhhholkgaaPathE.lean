/- The law TreePaths where it returns at once; what is on another leaf's path. -/
import Derived.Test.YtgdhbkhhholkgaaArgs
import Derived.Below
namespace Go.Proofs.Ytgdhbkhhholkgaa.treePaths
open Go.ChangeShapes Go.WideShapes Go.ChangeAt Go.RowKit Go.Proofs.Ytgdhbkhhholkgaa.hp Go.Proofs.Ytgdhbkhhholkgaa.tm Go.Proofs.Ytgdhbkhhholkgaa.st
set_option linter.unusedVariables false

theorem on_other {h a b i : Nat} (h1 : h ≤ 6) (ha : a < 2 ^ h) (hb : b < 2 ^ h) (hi : i ≤ h) : onI h ((bat h b i : Nat) : Int) a = decide ((i : Int) ≤ shr h a b) := by
  have hp := (pow_le6 h h1).2
  unfold onI
  rw [pathI_of h1 ha, Bool.eq_iff_iff, List.contains_iff_mem, path_mem, decide_eq_true_iff, ← same_iff h1 (by omega) (by omega) hi]
  constructor
  · rintro ⟨k, hk, e⟩
    have e : bat h b i = bat h a k := by omega
    have e1 := (bat_facts h1 hb hi).1
    have e2 := (bat_facts h1 ha hk).1
    rw [e, e2] at e1
    subst e1
    exact e.symm
  · intro e
    exact ⟨i, hi, by omega⟩

theorem on_own {h a i : Nat} (h1 : h ≤ 6) (ha : a < 2 ^ h) (hi : i ≤ h) : onI h ((bat h a i : Nat) : Int) a = true := by
  unfold onI
  rw [pathI_of h1 ha, List.contains_iff_mem, path_mem]
  exact ⟨i, hi, rfl⟩

set_option maxRecDepth 100000 in
set_option maxHeartbeats 4000000 in
theorem early (w : World) (h a b : Int) (x : Option Addr) (l c : Nat) (hh : okH h = false ∨ a < 0 ∨ b < 0 ∨ lvs h ≤ a ∨ lvs h ≤ b ∨ 60 < l) :
    Calls Try.prog 5 #[.int .i64 h, .int .i64 a, .int .i64 b, .slice x l c] w fun e w' => e = .returned (.bool true) ∧ Below w.heap.size w w' := by
  have HL : Hid (∀ w, Calls Try.prog 13 #[.int .i64 h] w fun e w' => e = .returned (.int .i64 (lvs h)) ∧ w' = w) := fun w => leaves_any w h
  have HM : Hid (∀ w, Calls Try.prog 10 #[.int .i64 h] w fun e w' => e = .returned (.bool (okH h)) ∧ w' = w) := fun w => may_any w h
  obtain ⟨n, hn⟩ : ∃ n, lvs h = n := ⟨_, rfl⟩
  obtain ⟨m, hm⟩ : ∃ m, okH h = m := ⟨_, rfl⟩
  rw [hn] at HL hh
  rw [hm] at HM hh
  clear hn hm
  have hc : m = false ∨ (m = true ∧ a < 0) ∨ (m = true ∧ 0 ≤ a ∧ b < 0) ∨ (m = true ∧ 0 ≤ a ∧ 0 ≤ b ∧ n ≤ a) ∨ (m = true ∧ 0 ≤ a ∧ 0 ≤ b ∧ a < n ∧ n ≤ b) ∨ (m = true ∧ 0 ≤ a ∧ 0 ≤ b ∧ a < n ∧ b < n ∧ (60 : Int) < l) := by
    cases m
    · exact .inl rfl
    · simp only [true_and, Bool.true_eq_false, false_or] at hh ⊢
      omega
  clear hh
  rcases hc with rfl | ⟨rfl, h1⟩ | ⟨rfl, h1, h2⟩ | ⟨rfl, h1, h2, h3⟩ | ⟨rfl, h1, h2, h3, h4⟩ | ⟨rfl, h1, h2, h3, h4, h5⟩
  · go_enter Try.func5, Try.ntmps5
    go_wp2_with fail
    refine (first_any _).mono ?_
    rintro e w1 ⟨rfl, k1⟩
    go_wp2_with fail
    refine (HM.out _).mono ?_
    rintro e w3 ⟨rfl, rfl⟩
    go_wp2_with fail
    refine (first_any _).mono ?_
    rintro e w4 ⟨rfl, k4⟩
    go_wp2
    go_ret
    exact ⟨rfl, (k1.then k4).below⟩
  · go_enter Try.func5, Try.ntmps5
    go_wp2_with fail
    refine (first_any _).mono ?_
    rintro e w1 ⟨rfl, k1⟩
    go_wp2_with fail
    refine (HM.out _).mono ?_
    rintro e w3 ⟨rfl, rfl⟩
    go_wp2_with fail
    refine (first_any _).mono ?_
    rintro e w4 ⟨rfl, k4⟩
    go_wp2
    go_ret
    exact ⟨rfl, (k1.then k4).below⟩
  · go_enter Try.func5, Try.ntmps5
    go_wp2_with fail
    refine (first_any _).mono ?_
    rintro e w1 ⟨rfl, k1⟩
    go_wp2_with fail
    refine (HM.out _).mono ?_
    rintro e w3 ⟨rfl, rfl⟩
    go_wp2_with fail
    refine (first_any _).mono ?_
    rintro e w4 ⟨rfl, k4⟩
    go_wp2
    go_ret
    exact ⟨rfl, (k1.then k4).below⟩
  · go_enter Try.func5, Try.ntmps5
    go_wp2_with fail
    refine (first_any _).mono ?_
    rintro e w1 ⟨rfl, k1⟩
    go_wp2_with fail
    refine (HM.out _).mono ?_
    rintro e w3 ⟨rfl, rfl⟩
    go_wp2_with fail
    refine (HL.out _).mono ?_
    rintro e w3 ⟨rfl, rfl⟩
    go_wp2_with fail
    refine (first_any _).mono ?_
    rintro e w4 ⟨rfl, k4⟩
    go_wp2
    go_ret
    exact ⟨rfl, (k1.then k4).below⟩
  all_goals
    go_enter Try.func5, Try.ntmps5
    go_wp2_with fail
    refine (first_any _).mono ?_
    rintro e w1 ⟨rfl, k1⟩
    go_wp2_with fail
    refine (HM.out _).mono ?_
    rintro e w3 ⟨rfl, rfl⟩
    go_wp2_with fail
    refine (HL.out _).mono ?_
    rintro e w3 ⟨rfl, rfl⟩
    go_wp2_with fail
    refine (HL.out _).mono ?_
    rintro e w3 ⟨rfl, rfl⟩
    go_wp2_with fail
    refine (first_any _).mono ?_
    rintro e w4 ⟨rfl, k4⟩
    go_wp2
    go_ret
    exact ⟨rfl, (k1.then k4).below⟩

end Go.Proofs.Ytgdhbkhhholkgaa.treePaths
