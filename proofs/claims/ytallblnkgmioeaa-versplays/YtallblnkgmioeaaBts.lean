/- Bits turned; eight a byte. Plain lists. -/
import Derived.Lib.BitFns
namespace Go.Proofs.Ytallblnkgmioeaa.bt
set_option linter.unusedVariables false
set_option linter.unusedSimpArgs false

/-- Each bit that is named, turned once. -/
def flipX (x : List Int) (l : List Int) : List Int := (List.range x.length).map fun (i : Nat) => if l.contains (i : Int) then 1 - x.getD i 0 else x.getD i 0

/-- May all of these be turned? -/
def okF (n : Nat) (l : List Int) : Bool := l.all fun b => decide (0 ≤ b ∧ b < (n : Int))

def flipI (x : List Int) (l : List Int) : List Int × Bool := if okF x.length l = true then (flipX x l, true) else (x, false)

def Bin (x : List Int) : Prop := ∀ i ∈ x, i = 0 ∨ i = 1

theorem flipX_len (x l : List Int) : (flipX x l).length = x.length := by simp [flipX]

theorem flipX_get (x l : List Int) (i : Nat) (hi : i < x.length) : (flipX x l).getD i 0 = if l.contains (i : Int) then 1 - x.getD i 0 else x.getD i 0 := by
  unfold flipX
  rw [List.getD_eq_getElem?_getD, List.getElem?_map, List.getElem?_range hi]
  rfl

theorem ext_getD {x y : List Int} (h : x.length = y.length) (h2 : ∀ i, i < x.length → x.getD i 0 = y.getD i 0) : x = y := by
  apply List.ext_getElem h
  intro i h3 h4
  have := h2 i h3
  rw [List.getD_eq_getElem?_getD, List.getD_eq_getElem?_getD, List.getElem?_eq_getElem h3, List.getElem?_eq_getElem h4] at this
  exact this

theorem flipX_nil (x : List Int) : flipX x [] = x := ext_getD (flipX_len x []) fun i hi => by
  rw [flipX_len] at hi
  rw [flipX_get x [] i hi]
  rfl

theorem getD_mem {x : List Int} {i : Nat} (hi : i < x.length) : x.getD i 0 ∈ x := by
  rw [List.getD_eq_getElem?_getD, List.getElem?_eq_getElem hi]
  exact List.getElem_mem hi

theorem flipX_bin {x : List Int} (h : Bin x) (l : List Int) : Bin (flipX x l) := by
  intro v hv
  unfold flipX at hv
  obtain ⟨i, hi, rfl⟩ := List.mem_map.1 hv
  have := h _ (getD_mem (List.mem_range.1 hi))
  split <;> omega

theorem contains_snoc (l : List Int) (b i : Int) : (l ++ [b]).contains i = (l.contains i || b == i) := by
  cases h : (l ++ [b]).contains i
  · have h' : ¬ i ∈ l ++ [b] := fun m => by rw [List.contains_iff_mem.2 m] at h; cases h
    have h1 : l.contains i = false := by
      cases h2 : l.contains i
      · rfl
      · exact absurd (List.mem_append_left _ (List.contains_iff_mem.1 h2)) h'
    have h3 : (b == i) = false := by
      cases h4 : b == i
      · rfl
      · exact absurd (by simp [eq_of_beq h4]) h'
    rw [h1, h3]
    rfl
  · have h' : i ∈ l ++ [b] := List.contains_iff_mem.1 h
    rcases List.mem_append.1 h' with m | m
    · rw [List.contains_iff_mem.2 m]
      rfl
    · have : i = b := by simpa using m
      subst this
      simp

/-- One that was named already: nothing more. -/
theorem flipX_again (x l : List Int) (b : Int) (h : l.contains b = true) : flipX x (l ++ [b]) = flipX x l := ext_getD (by rw [flipX_len, flipX_len]) fun i hi => by
  rw [flipX_len] at hi
  rw [flipX_get _ _ _ hi, flipX_get _ _ _ hi, contains_snoc]
  cases e : b == (i : Int)
  · rw [Bool.or_false]
  · rw [← eq_of_beq e, h, Bool.or_true]

/-- One that was not yet named is turned. -/
theorem flipX_one (x l : List Int) (k : Nat) (hk : k < x.length) (h : l.contains (k : Int) = false) : flipX x (l ++ [(k : Int)]) = (flipX x l).set k (1 - (flipX x l).getD k 0) := ext_getD (by rw [List.length_set, flipX_len, flipX_len]) fun i hi => by
  rw [flipX_len] at hi
  rw [flipX_get _ _ _ hi, contains_snoc, List.getD_eq_getElem?_getD (l := List.set _ _ _), List.getElem?_set]
  by_cases e : k = i
  · subst e
    have hkl : k < (flipX x l).length := by rw [flipX_len]; exact hk
    rw [flipX_get _ _ _ hk, h]
    simp [hkl]
  · rw [if_neg e, ← List.getD_eq_getElem?_getD, flipX_get _ _ _ hi]
    have : ((k : Int) == (i : Int)) = false := by simp; omega
    rw [this, Bool.or_false]

/-! ### Eight a byte -/

/-- The byte k of the first i bits. -/
def byt (x : List Int) (i k : Nat) : Int := ((List.range 8).map fun t => if 8 * k + t < i then x.getD (8 * k + t) 0 * 2 ^ t else 0).sum

def bytesTo (x : List Int) (i : Nat) : List Int := (List.range ((x.length + 7) / 8)).map fun k => byt x i k

def bytesOf (x : List Int) : List Int := bytesTo x x.length

theorem bytesTo_len (x : List Int) (i : Nat) : (bytesTo x i).length = (x.length + 7) / 8 := by simp [bytesTo]

theorem bytesTo_get (x : List Int) (i k : Nat) (hk : k < (x.length + 7) / 8) : (bytesTo x i).getD k 0 = byt x i k := by
  unfold bytesTo
  rw [List.getD_eq_getElem?_getD, List.getElem?_map, List.getElem?_range hk]
  rfl

theorem byt_zero (x : List Int) (k : Nat) : byt x 0 k = 0 := by
  unfold byt
  simp [List.range, List.range.loop]

theorem bytesTo_zero (x : List Int) : bytesTo x 0 = List.replicate ((x.length + 7) / 8) 0 := by
  apply ext_getD (by rw [bytesTo_len, List.length_replicate])
  intro i hi
  rw [bytesTo_len] at hi
  rw [bytesTo_get _ _ _ hi, byt_zero, List.getD_eq_getElem?_getD, List.getElem?_replicate, if_pos hi]
  rfl

theorem byt_other (x : List Int) (i k : Nat) (h : i / 8 ≠ k) : byt x (i + 1) k = byt x i k := by
  unfold byt
  congr 1
  refine List.map_congr_left fun t ht => ?_
  have ht8 := List.mem_range.1 ht
  by_cases h1 : 8 * k + t < i
  · rw [if_pos h1, if_pos (by omega)]
  · rw [if_neg h1, if_neg (by omega)]

/-- What lies below the bit, and the bit. -/
theorem byt_this (x : List Int) (hx : Bin x) (i : Nat) (hi : i < x.length) : 0 ≤ byt x i (i / 8) ∧ byt x i (i / 8) < 2 ^ (i % 8) ∧ byt x (i + 1) (i / 8) = byt x i (i / 8) + x.getD i 0 * 2 ^ (i % 8) := by
  obtain ⟨k, hk⟩ : ∃ k, i / 8 = k := ⟨_, rfl⟩
  obtain ⟨t, ht⟩ : ∃ t, i % 8 = t := ⟨_, rfl⟩
  have e : i = 8 * k + t := by omega
  have ht8 : t < 8 := by omega
  have hb : ∀ j, j < x.length → x.getD j 0 = 0 ∨ x.getD j 0 = 1 := fun j hj => hx _ (getD_mem hj)
  rw [hk, ht]
  subst e
  unfold byt
  have b0 := hb (8 * k + t) hi
  have hh : t = 0 ∨ t = 1 ∨ t = 2 ∨ t = 3 ∨ t = 4 ∨ t = 5 ∨ t = 6 ∨ t = 7 := by omega
  have c0 : 0 < t → x.getD (8 * k + 0) 0 = 0 ∨ x.getD (8 * k + 0) 0 = 1 := fun h => hb _ (by omega)
  have c1 : 1 < t → x.getD (8 * k + 1) 0 = 0 ∨ x.getD (8 * k + 1) 0 = 1 := fun h => hb _ (by omega)
  have c2 : 2 < t → x.getD (8 * k + 2) 0 = 0 ∨ x.getD (8 * k + 2) 0 = 1 := fun h => hb _ (by omega)
  have c3 : 3 < t → x.getD (8 * k + 3) 0 = 0 ∨ x.getD (8 * k + 3) 0 = 1 := fun h => hb _ (by omega)
  have c4 : 4 < t → x.getD (8 * k + 4) 0 = 0 ∨ x.getD (8 * k + 4) 0 = 1 := fun h => hb _ (by omega)
  have c5 : 5 < t → x.getD (8 * k + 5) 0 = 0 ∨ x.getD (8 * k + 5) 0 = 1 := fun h => hb _ (by omega)
  have c6 : 6 < t → x.getD (8 * k + 6) 0 = 0 ∨ x.getD (8 * k + 6) 0 = 1 := fun h => hb _ (by omega)
  rcases hh with rfl | rfl | rfl | rfl | rfl | rfl | rfl | rfl
  all_goals
    simp [List.range, List.range.loop] at c0 c1 c2 c3 c4 c5 c6 b0 ⊢
    omega

theorem bytesTo_next (x : List Int) (hx : Bin x) (i : Nat) (hi : i < x.length) : bytesTo x (i + 1) = (bytesTo x i).set (i / 8) (byt x i (i / 8) + x.getD i 0 * 2 ^ (i % 8)) := by
  apply ext_getD (by rw [List.length_set, bytesTo_len, bytesTo_len])
  intro k hk
  rw [bytesTo_len] at hk
  rw [bytesTo_get _ _ _ hk, List.getD_eq_getElem?_getD (l := List.set _ _ _), List.getElem?_set]
  by_cases e : i / 8 = k
  · subst e
    rw [if_pos rfl, if_pos (by rw [bytesTo_len]; exact hk)]
    exact (byt_this x hx i hi).2.2
  · rw [if_neg e, ← List.getD_eq_getElem?_getD, bytesTo_get _ _ _ hk]
    exact byt_other x i k e

end Go.Proofs.Ytallblnkgmioeaa.bt
