/- The table of fills, those that are through told; the order in which Plan goes. Plain lists. -/
import Derived.Test.YtkaohjlnlgennaaEvr
namespace Go.Proofs.Ytkaohjlnlgennaa.ev
open Go.Lib Go.Proofs.Ytkaohjlnlgennaa.tm
set_option linter.unusedVariables false
set_option linter.unusedSimpArgs false

def tbl (u : List Int) (F : Int → List Int) (done : List Nat) : List (Int × List Int) := (List.range u.length).map fun j => if done.contains j then (u.getD j 0, F (u.getD j 0)) else (0, [])

theorem tbl_len (u : List Int) (F : Int → List Int) (done : List Nat) : (tbl u F done).length = u.length := by simp [tbl]

theorem tbl_get {u : List Int} {F : Int → List Int} {done : List Nat} {j : Nat} (hj : j < u.length) : (tbl u F done)[j]? = some (if done.contains j then (u.getD j 0, F (u.getD j 0)) else (0, [])) := by
  unfold tbl
  rw [List.getElem?_map, List.getElem?_range hj]
  rfl

theorem tbl_none (u : List Int) (F : Int → List Int) : tbl u F [] = List.replicate u.length (0, []) := by
  apply List.ext_getElem?
  intro j
  by_cases hj : j < u.length
  · rw [tbl_get hj, List.getElem?_replicate, if_pos hj]
    simp
  · rw [List.getElem?_eq_none (by rw [tbl_len]; omega), List.getElem?_eq_none (by simp; omega)]

theorem getD_inj {u : List Int} (hu : u.Nodup) {i j : Nat} (hi : i < u.length) (hj : j < u.length) (h : u.getD i 0 = u.getD j 0) : i = j := by
  rw [List.getD_eq_getElem?_getD, List.getD_eq_getElem?_getD, List.getElem?_eq_getElem hi, List.getElem?_eq_getElem hj] at h
  exact (List.getElem_inj hu).1 h

theorem tbl_set {u : List Int} (hu : u.Nodup) (F : Int → List Int) (done : List Nat) (i : Nat) (hi : i < u.length) (b : Int) (hb : u.getD i 0 = b) (T : List Int) :
    (tbl u F done).set i (b, T) = tbl u (fun c => if c = b then T else F c) (done ++ [i]) := by
  apply List.ext_getElem?
  intro j
  by_cases hj : j < u.length
  · rw [tbl_get hj, List.getElem?_set]
    by_cases e : i = j
    · subst e
      rw [if_pos rfl, if_pos (by rw [tbl_len]; exact hj), hb]
      simp
    · rw [if_neg e, tbl_get hj]
      have hne : u.getD j 0 ≠ b := fun h => e (getD_inj hu hi hj (hb.trans h.symm))
      have hc : (done ++ [i]).contains j = done.contains j := by
        rw [Bool.eq_iff_iff, List.contains_iff_mem, List.contains_iff_mem, List.mem_append, List.mem_singleton]
        exact ⟨fun h => h.resolve_right fun h => e h.symm, .inl⟩
      rw [hc, if_neg hne]
  · rw [List.getElem?_eq_none (by rw [List.length_set, tbl_len]; omega), List.getElem?_eq_none (by rw [tbl_len]; omega)]

theorem tbl_all {u : List Int} (F : Int → List Int) (done : List Nat) (h : ∀ j, j < u.length → j ∈ done) : tbl u F done = u.map fun b => (b, F b) := by
  apply List.ext_getElem?
  intro j
  by_cases hj : j < u.length
  · rw [tbl_get hj, if_pos (List.contains_iff_mem.2 (h j hj)), List.getElem?_map, List.getD_eq_getElem?_getD, List.getElem?_eq_getElem hj]
    rfl
  · rw [List.getElem?_eq_none (by rw [tbl_len]; omega), List.getElem?_eq_none (by simp; omega)]

/-- A place of the row, and the number there. -/
abbrev Plc (u : List Int) : Type := { x : Nat × Int // x.1 < u.length ∧ u.getD x.1 0 = x.2 }

/-- From the row's end on. -/
def turns (u : List Int) : List (Plc u) := List.ofFn (n := u.length) fun k => ⟨(u.length - 1 - k.val, u.getD (u.length - 1 - k.val) 0), by have := k.isLt; omega, rfl⟩

theorem turns_len (u : List Int) : (turns u).length = u.length := by simp [turns]

theorem turns_get (u : List Int) (k : Nat) (hk : k < (turns u).length) : ((turns u)[k]).val = (u.length - 1 - k, u.getD (u.length - 1 - k) 0) := by simp [turns]

theorem turns_all (u : List Int) : ∀ j, j < u.length → j ∈ (turns u).map fun x => x.val.1 := by
  intro j hj
  refine List.mem_map.2 ⟨(turns u)[u.length - 1 - j]'(by rw [turns_len]; omega), List.getElem_mem _, ?_⟩
  rw [turns_get]
  show u.length - 1 - (u.length - 1 - j) = j
  omega

theorem turns_back (u : List Int) : ((turns u).map fun x => x.val.2) = u.reverse := by
  apply List.ext_getElem
  · simp [turns_len]
  · intro k h1 h2
    simp only [List.length_map, turns_len] at h1
    rw [List.getElem_map, turns_get, List.getElem_reverse]
    show u.getD (u.length - 1 - k) 0 = _
    rw [List.getD_eq_getElem?_getD, List.getElem?_eq_getElem (by omega)]
    rfl

end Go.Proofs.Ytkaohjlnlgennaa.ev
