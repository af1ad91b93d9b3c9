/- The contract of the document's Num. -/
import Derived.Test.YtlcbfdbnjohicaaRaw
namespace Go.Proofs.Ytlcbfdbnjohicaa.st
open Go.ChangeShapes Go.WideShapes Go.ChangeAt Go.RowKit Go.Proofs.Ytlcbfdbnjohicaa.hp Go.Proofs.Ytlcbfdbnjohicaa.dg
set_option linter.unusedVariables false

def Bytes (zs : List Int) : Prop := ∀ x ∈ zs, 0 ≤ x ∧ x ≤ 255

theorem dec_take (zs : List Int) (j : Nat) (hj : j < zs.length) : dec 0 (zs.take (j + 1)) = dec 0 (zs.take j) * 256 + zs.getD j 0 := by
  rw [List.take_succ_eq_append_getElem hj, dec_append]
  simp [List.getD_eq_getElem?_getD, List.getElem?_eq_getElem hj]

theorem Bytes.take {zs : List Int} (h : Bytes zs) (j : Nat) : Bytes (zs.take j) := fun x hx => h x (List.mem_of_mem_take hx)
theorem Bytes.drop {zs : List Int} (h : Bytes zs) (j : Nat) : Bytes (zs.drop j) := fun x hx => h x (List.mem_of_mem_drop hx)

theorem Bytes.get {zs : List Int} (h : Bytes zs) (j : Nat) : 0 ≤ zs.getD j 0 ∧ zs.getD j 0 ≤ 255 := by
  by_cases hj : j < zs.length
  · have e : zs.getD j 0 = zs[j] := by simp [List.getD_eq_getElem?_getD, List.getElem?_eq_getElem hj]
    rw [e]
    exact h _ (List.getElem_mem _)
  · have e : zs.getD j 0 = 0 := by simp [List.getD_eq_getElem?_getD, List.getElem?_eq_none (show zs.length ≤ j by omega)]
    rw [e]
    omega

theorem dec_small {zs : List Int} (h : Bytes zs) (hl : zs.length ≤ 7) (j : Nat) (hj : j < zs.length) : 0 ≤ dec 0 (zs.take j) ∧ dec 0 (zs.take j) < 281474976710656 := by
  have e := dec_bound (zs.take j) (h.take j) 0 0 (by omega) (by decide)
  have e2 : (zs.take j).length = j := by simp; omega
  rw [e2] at e
  refine ⟨e.1, ?_⟩
  have hc : j = 0 ∨ j = 1 ∨ j = 2 ∨ j = 3 ∨ j = 4 ∨ j = 5 ∨ j = 6 := by omega
  have e3 := e.2
  rcases hc with rfl | rfl | rfl | rfl | rfl | rfl | rfl <;> simp at e3 <;> omega

end Go.Proofs.Ytlcbfdbnjohicaa.st
