/- Plain facts for the law TraceFronts. -/
import Derived.Test.YteehphmedmplkaaOpen
namespace Go.Proofs.Yteehphmedmplkaa.st
open Go.ChangeShapes Go.WideShapes Go.ChangeAt Go.RowKit Go.Proofs.Yteehphmedmplkaa.hp Go.Proofs.Yteehphmedmplkaa.md
set_option linter.unusedVariables false

theorem Tra.cut {J : Nat → Prop} {w : World} {a : Option Addr} {n c : Nat} {T : List Rec} (h : Tra J w (.slice a n c) T) (k c' : Nat) (hk : k ≤ n) (hc : k ≤ c') : Tra J w (.slice a k c') (T.take k) := by
  have hn := h.len
  obtain ⟨a', cp, hv, hcp, h⟩ := h
  cases hv
  have hl : (T.take k).length = k := by simp; omega
  refine ⟨a, c', by rw [hl], by omega, fun i hi => ?_⟩
  rw [hl] at hi
  obtain ⟨x, rfl, hx, h0, h1, h2, h3⟩ := h i (by omega)
  have e : (T.take k).getD i dR = T.getD i dR := by
    rw [List.getD_eq_getElem?_getD, List.getD_eq_getElem?_getD, List.getElem?_take_of_lt hi]
  rw [e]
  exact ⟨x, rfl, hx, h0, h1, h2, h3⟩

theorem keys_take (T : List Rec) (k : Nat) : keys (T.take k) = (keys T).take k := by simp [keys, List.map_take]

theorem hits_two (T : List Rec) : hits [1] T + hits [2] T = hits [1, 2] T := by
  unfold hits
  induction T with
  | nil => rfl
  | cons x T ih =>
    simp only [List.filter_cons, List.isEmpty_cons, Bool.false_or] at ih ⊢
    by_cases h1 : x.kind = 1
    · simp [h1]
      simp at ih
      omega
    · by_cases h2 : x.kind = 2
      · simp [h2]
        simp at ih
        omega
      · simp [h1, h2]
        simpa using ih

theorem fronts_same (T U : List Rec) : decide (keys (T.take (comm (keys T) (keys U))) = keys (U.take (comm (keys T) (keys U)))) = true := by
  rw [keys_take, keys_take, comm_take]
  simp

theorem fronts_whole (T U : List Rec) : decide (keys T = keys U) = (decide (comm (keys T) (keys U) = T.length) && decide (comm (keys T) (keys U) = U.length)) := by
  have := comm_whole (keys T) (keys U)
  simp only [keys, List.length_map] at this
  rw [Bool.eq_iff_iff]
  simp only [decide_eq_true_eq, Bool.and_eq_true, keys]
  exact this.symm

theorem fronts_stop (T U : List Rec) (h1 : comm (keys T) (keys U) < T.length) (h2 : comm (keys T) (keys U) < U.length) : sm (T.getD (comm (keys T) (keys U)) dR) (U.getD (comm (keys T) (keys U)) dR) = false := by
  have := comm_stop (keys T) (keys U) dR.key (by simpa [keys] using h1) (by simpa [keys] using h2)
  rw [keys_at, keys_at] at this
  simpa [sm] using this

theorem fronts_cut (T : List Rec) (c : Nat) (hc : c ≤ T.length) : comm (keys T) (keys (T.take c)) = c := by
  rw [keys_take]
  exact comm_cut _ _ (by simpa [keys] using hc)

theorem fronts_le (T U : List Rec) : comm (keys T) (keys U) ≤ T.length ∧ comm (keys T) (keys U) ≤ U.length := by
  have := comm_le (keys T) (keys U)
  simpa [keys] using this

end Go.Proofs.Yteehphmedmplkaa.st
