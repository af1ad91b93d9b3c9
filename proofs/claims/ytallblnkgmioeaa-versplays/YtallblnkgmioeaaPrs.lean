/- The document's ParseBits. -/
import Derived.Test.YtallblnkgmioeaaByq
namespace Go.Proofs.Ytallblnkgmioeaa.st
open Go.ChangeShapes Go.WideShapes Go.ChangeAt Go.RowKit Go.Proofs.Ytallblnkgmioeaa.hp Go.Proofs.Ytallblnkgmioeaa.bt
set_option linter.unusedVariables false
set_option linter.unusedSimpArgs false

/-- The first i bits that bytes tell, zeros behind. -/
def bitsTo (n : Nat) (b : List Int) (i : Nat) : List Int := (List.range n).map fun (j : Nat) => if j < i then (b.getD (j / 8) 0) / 2 ^ (j % 8) % 2 else 0

def bitsOf (n : Nat) (b : List Int) : List Int := bitsTo n b n

theorem bitsTo_len (n : Nat) (b : List Int) (i : Nat) : (bitsTo n b i).length = n := by simp [bitsTo]

theorem bitsTo_get (n : Nat) (b : List Int) (i j : Nat) (hj : j < n) : (bitsTo n b i).getD j 0 = if j < i then (b.getD (j / 8) 0) / 2 ^ (j % 8) % 2 else 0 := by
  unfold bitsTo
  rw [List.getD_eq_getElem?_getD, List.getElem?_map, List.getElem?_range hj]
  rfl

theorem bitsTo_zero (n : Nat) (b : List Int) : bitsTo n b 0 = List.replicate n 0 := by
  apply ext_getD (by rw [bitsTo_len, List.length_replicate])
  intro j hj
  rw [bitsTo_len] at hj
  rw [bitsTo_get _ _ _ _ hj, if_neg (by omega), List.getD_eq_getElem?_getD, List.getElem?_replicate, if_pos hj]
  rfl

theorem bitsTo_next (n : Nat) (b : List Int) (i : Nat) (hi : i < n) : bitsTo n b (i + 1) = (bitsTo n b i).set i ((b.getD (i / 8) 0) / 2 ^ (i % 8) % 2) := by
  apply ext_getD (by rw [List.length_set, bitsTo_len, bitsTo_len])
  intro j hj
  rw [bitsTo_len] at hj
  rw [bitsTo_get _ _ _ _ hj, List.getD_eq_getElem?_getD (l := List.set _ _ _), List.getElem?_set]
  by_cases e : i = j
  · subst e
    have hl : i < (bitsTo n b i).length := by rw [bitsTo_len]; exact hj
    rw [if_pos (by omega)]
    simp [hl]
  · rw [if_neg e, ← List.getD_eq_getElem?_getD, bitsTo_get _ _ _ _ hj]
    by_cases h : j < i
    · rw [if_pos h, if_pos (by omega)]
    · rw [if_neg h, if_neg (by omega)]

theorem bitsTo_bin (n : Nat) (b : List Int) (i : Nat) : Bin (bitsTo n b i) := by
  intro v hv
  unfold bitsTo at hv
  obtain ⟨j, hj, rfl⟩ := List.mem_map.1 hv
  split <;> omega

theorem byt_bounds (x : List Int) (hx : Bin x) (k : Nat) : 0 ≤ byt x x.length k ∧ byt x x.length k ≤ 255 := by
  have h : ∀ j, 0 ≤ (if j < x.length then x.getD j 0 else 0) ∧ (if j < x.length then x.getD j 0 else 0) ≤ 1 := by
    intro j
    split
    · have := hx _ (getD_mem (by assumption))
      omega
    · omega
  have h0 := h (8 * k + 0)
  have h1 := h (8 * k + 1)
  have h2 := h (8 * k + 2)
  have h3 := h (8 * k + 3)
  have h4 := h (8 * k + 4)
  have h5 := h (8 * k + 5)
  have h6 := h (8 * k + 6)
  have h7 := h (8 * k + 7)
  have e : byt x x.length k = (List.map (fun t => (if 8 * k + t < x.length then x.getD (8 * k + t) 0 else 0) * 2 ^ t) (List.range 8)).sum := by
    unfold byt
    congr 1
    refine List.map_congr_left fun t ht => ?_
    split <;> omega
  rw [e]
  obtain ⟨f, hf⟩ : ∃ f : Nat → Int, (fun j => if j < x.length then x.getD j 0 else 0) = f := ⟨_, rfl⟩
  have hfj : ∀ j, (if j < x.length then x.getD j 0 else 0) = f j := fun j => congrFun hf j
  simp only [hfj] at h0 h1 h2 h3 h4 h5 h6 h7 ⊢
  simp [List.range, List.range.loop] at h0 h1 h2 h3 h4 h5 h6 h7 ⊢
  omega

theorem bytesOf_bytes (x : List Int) (hx : Bin x) : Bytes (bytesOf x) := by
  intro v hv
  unfold bytesOf bytesTo at hv
  obtain ⟨k, hk, rfl⟩ := List.mem_map.1 hv
  exact byt_bounds x hx k

/-- What ParseBits answers: the bits, and why not. -/
def parseI (n : Int) (b : List Int) : List Int × Int :=
  if mayN n = false then ([], 1) else if b.length ≠ (n.toNat + 7) / 8 then ([], 2) else if bytesOf (bitsOf n.toNat b) = b then (bitsOf n.toNat b, 0) else ([], 2)

theorem and_one (a : Nat) (ha : a < 256) : bits .and .i64 (a : Int) 1 = ((a % 2 : Nat) : Int) := by
  have : ∀ a : Fin 256, bits .and .i64 ((a.val : Nat) : Int) 1 = ((a.val % 2 : Nat) : Int) := by decide +kernel
  exact this ⟨a, ha⟩

end Go.Proofs.Ytallblnkgmioeaa.st
