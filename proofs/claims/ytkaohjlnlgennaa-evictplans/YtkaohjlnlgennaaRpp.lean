/- The document's plan, bucket by bucket. Plain lists. -/
import Derived.Test.YtkaohjlnlgennaaTbl
namespace Go.Proofs.Ytkaohjlnlgennaa.ev
open Go.Lib Go.Proofs.Ytkaohjlnlgennaa.tm
set_option linter.unusedVariables false
set_option linter.unusedSimpArgs false

/-- The table of fills: those of D are through. -/
def tbd (u : List Int) (F : Int → List Int) (D : List Int) : List (Int × List Int) := u.map fun b => if D.contains b then (b, F b) else (0, [])

theorem tbd_len (u : List Int) (F : Int → List Int) (D : List Int) : (tbd u F D).length = u.length := by simp [tbd]

theorem tbd_nil (u : List Int) (F : Int → List Int) : tbd u F [] = List.replicate u.length (0, []) := by
  unfold tbd
  simp only [List.contains_nil, Bool.false_eq_true, if_false]
  exact List.map_const'

theorem tbd_set {u : List Int} (hu : u.Nodup) (F : Int → List Int) (D : List Int) (i : Nat) (hi : i < u.length) (b : Int) (hb : u.getD i 0 = b) (T : List Int) :
    (tbd u F D).set i (b, T) = tbd u (fun c => if c = b then T else F c) (D ++ [b]) := by
  have get : ∀ (G : Int → List Int) (E : List Int) (j : Nat), j < u.length → (tbd u G E)[j]? = some (if E.contains (u.getD j 0) then (u.getD j 0, G (u.getD j 0)) else (0, [])) := by
    intro G E j hj
    unfold tbd
    rw [List.getElem?_map, List.getElem?_eq_getElem hj, List.getD_eq_getElem?_getD, List.getElem?_eq_getElem hj]
    rfl
  apply List.ext_getElem?
  intro j
  by_cases hj : j < u.length
  · rw [get _ _ j hj, List.getElem?_set]
    by_cases e : i = j
    · subst e
      rw [if_pos rfl, if_pos (by rw [tbd_len]; exact hj), hb]
      simp
    · rw [if_neg e, get _ _ j hj]
      have hne : u.getD j 0 ≠ b := fun h => e (getD_inj hu hi hj (hb.trans h.symm))
      have hc : (D ++ [b]).contains (u.getD j 0) = D.contains (u.getD j 0) := by
        rw [Bool.eq_iff_iff, List.contains_iff_mem, List.contains_iff_mem, List.mem_append, List.mem_singleton]
        exact ⟨fun h => h.resolve_right hne, .inl⟩
      rw [hc, if_neg hne]
  · rw [List.getElem?_eq_none (by rw [List.length_set, tbd_len]; omega), List.getElem?_eq_none (by rw [tbd_len]; omega)]

theorem tbd_all {u : List Int} (F : Int → List Int) (D : List Int) (h : ∀ b ∈ u, b ∈ D) : tbd u F D = u.map fun b => (b, F b) := by
  unfold tbd
  refine List.map_congr_left fun b hb => ?_
  rw [if_pos (List.contains_iff_mem.2 (h b hb))]

/-- What is through: kk levels, and of the next one the first i places. -/
def thru (lv : Int → Nat) (u : List Int) (h kk i : Nat) : List Int := ordTo lv u h kk ++ (u.take i).filter fun b => decide (lv b + kk = h)

theorem thru_zero (lv : Int → Nat) (u : List Int) (h kk : Nat) : thru lv u h kk 0 = ordTo lv u h kk := by simp [thru]

theorem thru_all (lv : Int → Nat) (u : List Int) (h kk : Nat) : thru lv u h kk u.length = ordTo lv u h (kk + 1) := by
  unfold thru
  rw [List.take_length]
  rfl

theorem take_at (u : List Int) (i : Nat) (hi : i < u.length) (b : Int) (hb : u.getD i 0 = b) : u.take (i + 1) = u.take i ++ [b] := by
  rw [List.take_succ_eq_append_getElem hi, ← hb, List.getD_eq_getElem?_getD, List.getElem?_eq_getElem hi]
  rfl

theorem thru_skip {lv : Int → Nat} {u : List Int} {h kk i : Nat} (hi : i < u.length) {b : Int} (hb : u.getD i 0 = b) (hl : ¬ lv b + kk = h) : thru lv u h kk (i + 1) = thru lv u h kk i := by
  unfold thru
  rw [take_at u i hi b hb, List.filter_append, List.filter_cons_of_neg (by simpa using hl)]
  simp

theorem thru_add {lv : Int → Nat} {u : List Int} {h kk i : Nat} (hi : i < u.length) {b : Int} (hb : u.getD i 0 = b) (hl : lv b + kk = h) : thru lv u h kk (i + 1) = thru lv u h kk i ++ [b] := by
  unfold thru
  rw [take_at u i hi b hb, List.filter_append, List.filter_cons_of_pos (by simpa using hl), List.append_assoc]
  simp

theorem thru_new {lv : Int → Nat} {u : List Int} (hu : u.Nodup) {h kk i : Nat} (hi : i < u.length) {b : Int} (hb : u.getD i 0 = b) (hl : lv b + kk = h) : b ∉ thru lv u h kk i := by
  unfold thru
  intro hm
  rcases List.mem_append.1 hm with h1 | h1
  · have := (ordTo_mem b kk).1 h1
    omega
  · have h2 := (List.mem_filter.1 h1).1
    obtain ⟨j, hj, e⟩ := List.getElem_of_mem h2
    simp only [List.length_take] at hj
    rw [List.getElem_take] at e
    have : j = i := getD_inj hu (by omega) hi (by rw [hb, List.getD_eq_getElem?_getD, List.getElem?_eq_getElem (by omega)]; exact e)
    omega

end Go.Proofs.Ytkaohjlnlgennaa.ev
