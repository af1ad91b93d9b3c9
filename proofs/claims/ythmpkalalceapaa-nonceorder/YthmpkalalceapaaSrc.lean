/- Contracts of Left, Next, of the document's May and Next. -/
import Derived.Test.YthmpkalalceapaaNon
namespace Go.Proofs.Ythmpkalalceapaa.st
open Go.ChangeShapes Go.WideShapes Go.ChangeAt Go.RowKit Go.Proofs.Ythmpkalalceapaa.hp Go.Proofs.Ythmpkalalceapaa.dg
set_option linter.unusedVariables false

theorem rmay_any (w : World) (g c : Int) : Calls Try.prog 13 #[nv g c] w fun e w' => e = .returned (.bool (may g c)) ∧ Chg no w w' := by
  have HM := fun w => rmost_any w
  have hc : (g < 0 ∧ may g c = false) ∨ (0 ≤ g ∧ 1099511627776 < g ∧ may g c = false) ∨ (0 ≤ g ∧ g ≤ 1099511627776 ∧ c < 0 ∧ may g c = false) ∨ (0 ≤ g ∧ g ≤ 1099511627776 ∧ 0 ≤ c ∧ 1099511627776 < c ∧ may g c = false) ∨ (0 ≤ g ∧ g ≤ 1099511627776 ∧ 0 ≤ c ∧ c ≤ 1099511627776 ∧ may g c = true) := by
    unfold may
    simp only [decide_eq_true_eq, decide_eq_false_iff_not]
    omega
  rcases hc with ⟨h1, h9⟩ | ⟨h1, h2, h9⟩ | ⟨h1, h2, h3, h9⟩ | ⟨h1, h2, h3, h4, h9⟩ | ⟨h1, h2, h3, h4, h9⟩
  · rw [h9]
    have d0 : decide (0 ≤ g) = false := decide_eq_false (by omega)
    clear h9
    go_enter Try.func13, Try.ntmps13
    go_wp2_with fail
    go_quiet ((go_at_call 27; go_must (exact Calls.quiet_of_same (HM _))))
    go_wp2
    go_ret
    exact ⟨ret_bool (by simp), ((Chg.refl no w).alloc _).drewN _⟩
  · rw [h9]
    have d0 : decide (0 ≤ g) = true := decide_eq_true (by omega)
    have d1 : decide (g ≤ 1099511627776) = false := decide_eq_false (by omega)
    clear h9
    go_enter Try.func13, Try.ntmps13
    go_wp2_with fail
    go_quiet ((go_at_call 27; go_must (exact Calls.quiet_of_same (HM _))))
    go_wp2
    go_ret
    exact ⟨ret_bool (by simp), ((Chg.refl no w).alloc _).drewN _⟩
  · rw [h9]
    have d0 : decide (0 ≤ g) = true := decide_eq_true (by omega)
    have d1 : decide (g ≤ 1099511627776) = true := decide_eq_true (by omega)
    have d2 : decide (0 ≤ c) = false := decide_eq_false (by omega)
    clear h9
    go_enter Try.func13, Try.ntmps13
    go_wp2_with fail
    go_quiet ((go_at_call 27; go_must (exact Calls.quiet_of_same (HM _))))
    go_wp2
    go_ret
    exact ⟨ret_bool (by simp), ((Chg.refl no w).alloc _).drewN _⟩
  · rw [h9]
    have d0 : decide (0 ≤ g) = true := decide_eq_true (by omega)
    have d1 : decide (g ≤ 1099511627776) = true := decide_eq_true (by omega)
    have d2 : decide (0 ≤ c) = true := decide_eq_true (by omega)
    have d3 : decide (c ≤ 1099511627776) = false := decide_eq_false (by omega)
    clear h9
    go_enter Try.func13, Try.ntmps13
    go_wp2_with fail
    go_quiet ((go_at_call 27; go_must (exact Calls.quiet_of_same (HM _))))
    go_wp2
    go_ret
    exact ⟨ret_bool (by simp), ((Chg.refl no w).alloc _).drewN _⟩
  · rw [h9]
    have d0 : decide (0 ≤ g) = true := decide_eq_true (by omega)
    have d1 : decide (g ≤ 1099511627776) = true := decide_eq_true (by omega)
    have d2 : decide (0 ≤ c) = true := decide_eq_true (by omega)
    have d3 : decide (c ≤ 1099511627776) = true := decide_eq_true (by omega)
    clear h9
    go_enter Try.func13, Try.ntmps13
    go_wp2_with fail
    go_quiet ((go_at_call 27; go_must (exact Calls.quiet_of_same (HM _))))
    go_wp2
    go_ret
    exact ⟨ret_bool (by simp), ((Chg.refl no w).alloc _).drewN _⟩

theorem left_any {w : World} {p : Nat} {g c m : Int} (h : Src w p 47 g c m) (h0 : 0 ≤ c) (h1 : c ≤ m) (h2 : m ≤ 1099511627776) :
    Calls Try.prog 22 #[.pointer (some ⟨p, 0, none⟩)] w fun e w' => e = .returned (.int .i64 (m - c)) ∧ Chg no w w' := by
  obtain ⟨c0, c1, c2, c3, c4, c5⟩ := h.cells
  clear h
  have hmx : (if m - c < 0 then 0 else m - c) = m - c := if_neg (by omega)
  go_enter Try.func22, Try.ntmps22
  go_wp2_with fail
  go_region
  all_goals go_wp2
  all_goals go_ret
  all_goals exact ⟨rfl, (Chg.refl no w).drewN _⟩

end Go.Proofs.Ythmpkalalceapaa.st
