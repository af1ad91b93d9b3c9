/- Unions of paths and counts of buckets as lists: plain facts, with no word of the program. -/
import Derived.Test.YtkaohjlnlgennaaTrm
namespace Go.Proofs.Ytkaohjlnlgennaa.tm
open Go.Lib

/-- All buckets, rising. -/
def bkt (h : Nat) : List Int := (List.range (2 * 2 ^ h - 1)).map fun b : Nat => (b : Int)

/-- Which buckets are among these. -/
def mrk (h : Nat) (S : List Int) : List Bool := (List.range (2 * 2 ^ h - 1)).map fun b : Nat => S.contains (b : Int)

/-- How often each bucket is among these. -/
def tally (h : Nat) (S : List Int) : List Int := (List.range (2 * 2 ^ h - 1)).map fun b : Nat => (S.count (b : Int) : Int)

/-- The buckets of these, rising. -/
def rise (S : List Int) (n : Nat) : List Int := ((List.range n).map fun b : Nat => (b : Int)).filter fun b : Int => S.contains b

/-- The paths of these leaves, one behind the other. -/
def wys (h : Int) (ls : List Int) : List Int := ls.flatMap (pathI h)

/-- The union of the paths. -/
def uni (h : Int) (ls : List Int) : List Int := if ls.all (okL h) = true then rise (wys h ls) (bks h).toNat else []

theorem mrk_length (h : Nat) (S : List Int) : (mrk h S).length = 2 * 2 ^ h - 1 := by simp [mrk]
theorem tally_length (h : Nat) (S : List Int) : (tally h S).length = 2 * 2 ^ h - 1 := by simp [tally]

theorem mrk_get (h : Nat) (S : List Int) (b : Nat) (hb : b < 2 * 2 ^ h - 1) : (mrk h S)[b]? = some (S.contains (b : Int)) := by
  unfold mrk
  rw [List.getElem?_map, List.getElem?_range hb]
  rfl

theorem tally_get (h : Nat) (S : List Int) (b : Nat) (hb : b < 2 * 2 ^ h - 1) : (tally h S)[b]? = some (S.count (b : Int) : Int) := by
  unfold tally
  rw [List.getElem?_map, List.getElem?_range hb]
  rfl

theorem mrk_add (h : Nat) (S : List Int) (b : Nat) (hb : b < 2 * 2 ^ h - 1) : (mrk h S).set b true = mrk h (S ++ [(b : Int)]) := by
  apply List.ext_getElem?
  intro i
  by_cases hi : i < 2 * 2 ^ h - 1
  · rw [mrk_get _ _ _ hi, List.getElem?_set]
    by_cases hbi : b = i
    · subst hbi
      rw [if_pos rfl, if_pos (by rw [mrk_length]; exact hb)]
      simp
    · rw [if_neg hbi, mrk_get _ _ _ hi]
      have : ¬ (i : Int) = b := by omega
      simp [this]
  · rw [List.getElem?_eq_none (by simp [mrk_length]; omega), List.getElem?_eq_none (by rw [mrk_length]; omega)]

theorem tally_add (h : Nat) (S : List Int) (b : Nat) (hb : b < 2 * 2 ^ h - 1) : (tally h S).set b ((S.count (b : Int) : Int) + 1) = tally h (S ++ [(b : Int)]) := by
  apply List.ext_getElem?
  intro i
  by_cases hi : i < 2 * 2 ^ h - 1
  · rw [tally_get _ _ _ hi, List.getElem?_set]
    by_cases hbi : b = i
    · subst hbi
      rw [if_pos rfl, if_pos (by rw [tally_length]; exact hb), List.count_append]
      simp
    · rw [if_neg hbi, tally_get _ _ _ hi]
      have : ¬ (b : Int) = i := by omega
      rw [List.count_append, List.count_cons_of_ne this]
      simp
  · rw [List.getElem?_eq_none (by simp [tally_length]; omega), List.getElem?_eq_none (by rw [tally_length]; omega)]

theorem mrk_nil (h : Nat) : mrk h [] = List.replicate (2 * 2 ^ h - 1) false := by
  unfold mrk
  rw [List.map_congr_left (g := fun _ => false) (fun _ _ => by simp), List.map_const', List.length_range]

theorem tally_nil (h : Nat) : tally h [] = List.replicate (2 * 2 ^ h - 1) 0 := by
  unfold tally
  rw [List.map_congr_left (g := fun _ => (0 : Int)) (fun _ _ => by simp), List.map_const', List.length_range]

theorem rise_zero (S : List Int) : rise S 0 = [] := rfl

theorem rise_succ (S : List Int) (n : Nat) : rise S (n + 1) = if S.contains (n : Int) = true then rise S n ++ [(n : Int)] else rise S n := by
  unfold rise
  rw [List.range_succ, List.map_append, List.filter_append]
  by_cases hc : S.contains (n : Int) = true
  · rw [if_pos hc]
    simp only [List.map_cons, List.map_nil, List.filter_cons, hc, if_true, List.filter_nil]
  · rw [if_neg hc]
    simp only [List.map_cons, List.map_nil, List.filter_cons, hc, List.filter_nil]
    simp

theorem rise_length (S : List Int) (n : Nat) : (rise S n).length ≤ n := by
  unfold rise
  have := List.length_filter_le (fun b : Int => S.contains b) ((List.range n).map fun b : Nat => (b : Int))
  simpa using this

theorem wys_snoc (h : Int) (ls : List Int) (j : Nat) (hj : j < ls.length) : wys h (ls.take (j + 1)) = wys h (ls.take j) ++ pathI h (ls.getD j 0) := by
  unfold wys
  rw [List.take_succ_eq_append_getElem hj, List.flatMap_append]
  simp [List.getD_eq_getElem?_getD, List.getElem?_eq_getElem hj]

theorem wys_has (h : Int) (ls : List Int) (b : Int) : (wys h ls).contains b = ls.any fun l => onI h b l := by
  unfold wys onI
  rw [Bool.eq_iff_iff, List.contains_iff_mem, List.mem_flatMap, List.any_eq_true]
  simp

theorem take_snoc (T : List Int) (k : Nat) (hk : k < T.length) : T.take (k + 1) = T.take k ++ [T.getD k 0] := by
  rw [List.take_succ_eq_append_getElem hk]
  simp [List.getD_eq_getElem?_getD, List.getElem?_eq_getElem hk]

end Go.Proofs.Ytkaohjlnlgennaa.tm
