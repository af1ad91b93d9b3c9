/- Blocks as plain lists: which may be, their text, what a text tells. -/
import Derived.Test.YtedhlidmmmlemaaSmall
namespace Go.Proofs.Ytedhlidmmmlemaa.st
open Go.ChangeShapes Go.WideShapes Go.ChangeAt Go.RowKit Go.Proofs.Ytedhlidmmmlemaa.hp
set_option linter.unusedVariables false

/-- Each is a byte. -/
def Bytes (zs : List Int) : Prop := ∀ x ∈ zs, 0 ≤ x ∧ x ≤ 255

/-- A block: its id, its bytes. -/
abbrev Bk := Int × List Int

def okB (b : Bk) : Prop := 0 ≤ b.1 ∧ b.1 < 64 ∧ b.2.length = 37
instance (b : Bk) : Decidable (okB b) := by unfold okB; infer_instance

def mayP (l : List Bk) : Prop := (∀ b ∈ l, okB b) ∧ (l.map (·.1)).Nodup
instance (l : List Bk) : Decidable (mayP l) := by unfold mayP; infer_instance

def mayL (l : List Bk) : Bool := decide (mayP l)

theorem mayP_nil : mayP [] := ⟨by simp, by simp⟩

theorem mayP_append {l m : List Bk} (h : mayP (l ++ m)) : mayP l := by
  refine ⟨fun b hb => h.1 b (by simp [hb]), ?_⟩
  have := h.2
  rw [List.map_append] at this
  exact (List.nodup_append.1 this).1

theorem mayP_take {l : List Bk} (h : mayP l) (j : Nat) : mayP (l.take j) := by
  rw [← List.take_append_drop j l] at h
  exact mayP_append h

theorem mayP_snoc {l : List Bk} {x : Bk} : mayP (l ++ [x]) ↔ mayP l ∧ okB x ∧ x.1 ∉ l.map (·.1) := by
  constructor
  · intro h
    refine ⟨mayP_append h, h.1 x (by simp), fun hx => ?_⟩
    have := h.2
    rw [List.map_append] at this
    exact (List.nodup_append.1 this).2.2 x.1 hx x.1 (by simp) rfl
  · rintro ⟨h1, h2, h3⟩
    refine ⟨fun b hb => ?_, ?_⟩
    · rcases List.mem_append.1 hb with hb | hb
      · exact h1.1 b hb
      · simp at hb
        subst hb
        exact h2
    · rw [List.map_append]
      refine List.nodup_append.2 ⟨h1.2, by simp, ?_⟩
      intro a ha b hb e
      simp at hb
      subst hb
      subst e
      exact h3 ha

theorem take_snoc {α : Type} (l : List α) (j : Nat) (d : α) (hj : j < l.length) : l.take (j + 1) = l.take j ++ [l.getD j d] := by
  rw [List.take_succ_eq_append_getElem hj]
  simp [List.getD_eq_getElem?_getD, List.getElem?_eq_getElem hj]

def dBk : Bk := (0, [])

theorem mayP_step {l : List Bk} {j : Nat} (hj : j < l.length) : mayP (l.take (j + 1)) ↔ mayP (l.take j) ∧ okB (l.getD j dBk) ∧ (l.getD j dBk).1 ∉ (l.take j).map (·.1) := by
  rw [take_snoc l j dBk hj]
  exact mayP_snoc

theorem mayL_false {l : List Bk} {j : Nat} (h : ¬ mayP (l.take (j + 1))) : mayL l = false := decide_eq_false fun k => h (mayP_take k _)


end Go.Proofs.Ytedhlidmmmlemaa.st
