/- Contracts of Left, Next, of the document's May and Next. -/
import Derived.Test.YtmchjnmmeankgaaNon
namespace Go.Proofs.Ytmchjnmmeankgaa.st
open Go.ChangeShapes Go.WideShapes Go.ChangeAt Go.RowKit Go.Proofs.Ytmchjnmmeankgaa.hp Go.Proofs.Ytmchjnmmeankgaa.dg
set_option linter.unusedVariables false

theorem rmay_any (w : World) (g c : Int) : Calls Try.prog 33 #[nv g c] w fun e w' => e = .returned (.bool (may g c)) ∧ Chg no w w' := by
  have HM := fun w => rmost_any w
  have hc : (g < 0 ∧ may g c = false) ∨ (0 ≤ g ∧ 1099511627776 < g ∧ may g c = false) ∨ (0 ≤ g ∧ g ≤ 1099511627776 ∧ c < 0 ∧ may g c = false) ∨ (0 ≤ g ∧ g ≤ 1099511627776 ∧ 0 ≤ c ∧ 1099511627776 < c ∧ may g c = false) ∨ (0 ≤ g ∧ g ≤ 1099511627776 ∧ 0 ≤ c ∧ c ≤ 1099511627776 ∧ may g c = true) := by
    unfold may
    simp only [decide_eq_true_eq, decide_eq_false_iff_not]
    omega
  rcases hc with ⟨h1, h9⟩ | ⟨h1, h2, h9⟩ | ⟨h1, h2, h3, h9⟩ | ⟨h1, h2, h3, h4, h9⟩ | ⟨h1, h2, h3, h4, h9⟩
  · rw [h9]
    have d0 : decide (0 ≤ g) = false := decide_eq_false (by omega)
    clear h9
    go_enter Try.func33, Try.ntmps33
    go_wp2_with fail
    go_quiet ((go_at_call 44; go_must (exact Calls.quiet_of_same (HM _))))
    go_wp2
    go_ret
    exact ⟨ret_bool (by simp), ((Chg.refl no w).alloc _).drewN _⟩
  · rw [h9]
    have d0 : decide (0 ≤ g) = true := decide_eq_true (by omega)
    have d1 : decide (g ≤ 1099511627776) = false := decide_eq_false (by omega)
    clear h9
    go_enter Try.func33, Try.ntmps33
    go_wp2_with fail
    go_quiet ((go_at_call 44; go_must (exact Calls.quiet_of_same (HM _))))
    go_wp2
    go_ret
    exact ⟨ret_bool (by simp), ((Chg.refl no w).alloc _).drewN _⟩
  · rw [h9]
    have d0 : decide (0 ≤ g) = true := decide_eq_true (by omega)
    have d1 : decide (g ≤ 1099511627776) = true := decide_eq_true (by omega)
    have d2 : decide (0 ≤ c) = false := decide_eq_false (by omega)
    clear h9
    go_enter Try.func33, Try.ntmps33
    go_wp2_with fail
    go_quiet ((go_at_call 44; go_must (exact Calls.quiet_of_same (HM _))))
    go_wp2
    go_ret
    exact ⟨ret_bool (by simp), ((Chg.refl no w).alloc _).drewN _⟩
  · rw [h9]
    have d0 : decide (0 ≤ g) = true := decide_eq_true (by omega)
    have d1 : decide (g ≤ 1099511627776) = true := decide_eq_true (by omega)
    have d2 : decide (0 ≤ c) = true := decide_eq_true (by omega)
    have d3 : decide (c ≤ 1099511627776) = false := decide_eq_false (by omega)
    clear h9
    go_enter Try.func33, Try.ntmps33
    go_wp2_with fail
    go_quiet ((go_at_call 44; go_must (exact Calls.quiet_of_same (HM _))))
    go_wp2
    go_ret
    exact ⟨ret_bool (by simp), ((Chg.refl no w).alloc _).drewN _⟩
  · rw [h9]
    have d0 : decide (0 ≤ g) = true := decide_eq_true (by omega)
    have d1 : decide (g ≤ 1099511627776) = true := decide_eq_true (by omega)
    have d2 : decide (0 ≤ c) = true := decide_eq_true (by omega)
    have d3 : decide (c ≤ 1099511627776) = true := decide_eq_true (by omega)
    clear h9
    go_enter Try.func33, Try.ntmps33
    go_wp2_with fail
    go_quiet ((go_at_call 44; go_must (exact Calls.quiet_of_same (HM _))))
    go_wp2
    go_ret
    exact ⟨ret_bool (by simp), ((Chg.refl no w).alloc _).drewN _⟩

end Go.Proofs.Ytmchjnmmeankgaa.st
