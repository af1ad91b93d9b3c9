/- What changed, applied to what was: plain facts on lists of places, marks and changes. -/
import Derived.Test.YtocbmjkbbbmncaaDuo
namespace Go.Proofs.Ytocbmjkbbbmncaa.st
open Go.ChangeShapes Go.WideShapes Go.ChangeAt Go.RowKit Go.Proofs.Ytocbmjkbbbmncaa.hp
set_option linter.unusedVariables false

theorem told_none (ps : List (Int × Int)) (n k : Nat) : told ps (List.replicate n false) k = [] := by
  induction k with
  | zero => rfl
  | succ k ih =>
    rw [told, if_neg, ih]
    rw [List.getD_eq_getElem?_getD, List.getElem?_replicate]
    split <;> simp

theorem told_mem (ps : List (Int × Int)) (ch : List Bool) (k : Nat) : ∀ x ∈ told ps ch k, ∃ i, i < k ∧ x = ((i : Int), ps.getD i (0, 0)) ∧ ch.getD i false = true := by
  induction k with
  | zero => simp [told]
  | succ k ih =>
    intro x hx
    rw [told] at hx
    split at hx
    · rename_i hc
      rcases List.mem_append.1 hx with h | h
      · obtain ⟨i, h1, h2⟩ := ih x h
        exact ⟨i, by omega, h2⟩
      · exact ⟨k, by omega, List.mem_singleton.1 h, hc⟩
    · obtain ⟨i, h1, h2⟩ := ih x hx
      exact ⟨i, by omega, h2⟩

theorem told_rise (ps : List (Int × Int)) (ch : List Bool) (k : Nat) : (told ps ch k).Pairwise (fun a b => a.1 < b.1) := by
  induction k with
  | zero => simp [told]
  | succ k ih =>
    rw [told]
    split
    · rw [List.pairwise_append]
      refine ⟨ih, List.pairwise_singleton _ _, fun a ha b hb => ?_⟩
      obtain ⟨i, h1, rfl, _⟩ := told_mem ps ch k a ha
      rw [List.mem_singleton.1 hb]
      simp
      omega
    · exact ih

theorem told_less {ps : List (Int × Int)} {ch : List Bool} {k i : Nat} {x y : Int × Int × Int} (hx : (told ps ch k)[i]? = some x) (hy : (told ps ch k)[i + 1]? = some y) : x.1 < y.1 := by
  obtain ⟨h1, rfl⟩ := List.getElem?_eq_some_iff.1 hx
  obtain ⟨h2, rfl⟩ := List.getElem?_eq_some_iff.1 hy
  exact List.pairwise_iff_getElem.1 (told_rise ps ch k) i (i + 1) h1 h2 (by omega)

/-- What was, what is, and what is marked. -/
structure Apart (qs ps : List (Int × Int)) (ch : List Bool) : Prop where
  len : ps.length = qs.length
  same : ∀ i, i < qs.length → ch.getD i false = false → ps.getD i (0, 0) = qs.getD i (0, 0)
  good : ∀ i, i < qs.length → ch.getD i false = true → 0 ≤ (ps.getD i (0, 0)).1 ∧ 0 ≤ (ps.getD i (0, 0)).2

theorem Apart.start (qs : List (Int × Int)) (n : Nat) : Apart qs qs (List.replicate n false) := by
  refine ⟨rfl, fun i hi _ => rfl, fun i hi h => ?_⟩
  rw [List.getD_eq_getElem?_getD, List.getElem?_replicate] at h
  split at h <;> simp at h

theorem getD_set {α : Type} (xs : List α) (k i : Nat) (x d : α) (hk : k < xs.length) : (xs.set k x).getD i d = if k = i then x else xs.getD i d := by
  rw [List.getD_eq_getElem?_getD, List.getElem?_set, List.getD_eq_getElem?_getD]
  by_cases e : k = i
  · subst e
    rw [if_pos rfl, if_pos rfl, if_pos hk]
    rfl
  · rw [if_neg e, if_neg e]

theorem Apart.set {qs ps : List (Int × Int)} {ch : List Bool} (h : Apart qs ps ch) (hc : ch.length = ps.length) (d l t : Int) : Apart qs (setP ps d l t) (setC ps.length ch d l t) := by
  unfold setP setC
  by_cases hm : may ps.length d l t = true
  · rw [if_pos hm, if_pos hm]
    have hd : 0 ≤ d ∧ d < ps.length ∧ 0 ≤ l ∧ 0 ≤ t := by unfold may at hm; simpa using hm
    have hk : d.toNat < ps.length := by omega
    refine ⟨by rw [List.length_set]; exact h.len, fun i hi hb => ?_, fun i hi hb => ?_⟩
    · rw [getD_set _ _ _ _ _ (by omega)] at hb
      rw [getD_set _ _ _ _ _ hk]
      by_cases e : d.toNat = i
      · rw [if_pos e] at hb
        cases hb
      · rw [if_neg e] at hb ⊢
        exact h.same i hi hb
    · rw [getD_set _ _ _ _ _ (by omega)] at hb
      rw [getD_set _ _ _ _ _ hk]
      by_cases e : d.toNat = i
      · rw [if_pos e]
        exact hd.2.2
      · rw [if_neg e] at hb ⊢
        exact h.good i hi hb
  · rw [if_neg hm, if_neg hm]
    exact h

theorem Apart.may {qs ps : List (Int × Int)} {ch : List Bool} (h : Apart qs ps ch) : mayAll qs.length (told ps ch ps.length) = true := by
  unfold mayAll
  rw [List.all_eq_true]
  intro x hx
  obtain ⟨i, h1, rfl, h2⟩ := told_mem ps ch _ x hx
  have hi : i < qs.length := by have := h.len; omega
  have := h.good i hi h2
  unfold st.may
  simp only [decide_eq_true_eq]
  omega

theorem putAll_app (qs : List (Int × Int)) (cs ds : List (Int × Int × Int)) : putAll qs (cs ++ ds) = putAll (putAll qs cs) ds := by unfold putAll; rw [List.foldl_append]

theorem Apart.puts {qs ps : List (Int × Int)} {ch : List Bool} (h : Apart qs ps ch) (k : Nat) (hk : k ≤ ps.length) (i : Nat) (hi : i < ps.length) : (putAll qs (told ps ch k)).getD i (0, 0) = if i < k then ps.getD i (0, 0) else qs.getD i (0, 0) := by
  induction k with
  | zero => simp [told, putAll]
  | succ k ih =>
    have ih := ih (by omega)
    have hl : (putAll qs (told ps ch k)).length = ps.length := by rw [putAll_length]; exact h.len.symm
    rw [told]
    by_cases hc : ch.getD k false = true
    · rw [if_pos hc, putAll_app]
      have e : putAll (putAll qs (told ps ch k)) [((k : Int), ps.getD k (0, 0))] = (putAll qs (told ps ch k)).set k (ps.getD k (0, 0)) := by
        unfold putAll
        simp
      rw [e, getD_set _ _ _ _ _ (by omega)]
      by_cases e2 : k = i
      · subst e2
        rw [if_pos rfl, if_pos (by omega)]
      · rw [if_neg e2, ih]
        by_cases e3 : i < k
        · rw [if_pos e3, if_pos (by omega)]
        · rw [if_neg e3, if_neg (by omega)]
    · rw [if_neg hc, ih]
      by_cases e2 : k = i
      · subst e2
        rw [if_neg (by omega), if_pos (by omega)]
        exact (h.same k (by have := h.len; omega) (by simpa using hc)).symm
      · by_cases e3 : i < k
        · rw [if_pos e3, if_pos (by omega)]
        · rw [if_neg e3, if_neg (by omega)]

theorem Apart.back {qs ps : List (Int × Int)} {ch : List Bool} (h : Apart qs ps ch) : applyP qs (told ps ch ps.length) = ps := by
  unfold applyP
  rw [if_pos h.may]
  have hl : (putAll qs (told ps ch ps.length)).length = ps.length := by rw [putAll_length]; exact h.len.symm
  apply List.ext_getElem?
  intro i
  by_cases hi : i < ps.length
  · have := h.puts ps.length (Nat.le_refl _) i hi
    rw [if_pos hi, List.getD_eq_getElem?_getD, List.getD_eq_getElem?_getD, List.getElem?_eq_getElem hi, List.getElem?_eq_getElem (by omega)] at this
    rw [List.getElem?_eq_getElem hi, List.getElem?_eq_getElem (by omega)]
    exact congrArg some this
  · rw [List.getElem?_eq_none (by omega), List.getElem?_eq_none (by omega)]

end Go.Proofs.Ytocbmjkbbbmncaa.st
