/- Bits told as bytes and back; what is turned twice, in whatever order. Plain lists. -/
import Derived.Test.YtallblnkgmioeaaPrs
namespace Go.Proofs.Ytallblnkgmioeaa.st
open Go.Proofs.Ytallblnkgmioeaa.hp Go.Proofs.Ytallblnkgmioeaa.bt
set_option linter.unusedVariables false
set_option linter.unusedSimpArgs false

theorem eight {a0 a1 a2 a3 a4 a5 a6 a7 : Int} (h0 : 0 ≤ a0 ∧ a0 ≤ 1) (h1 : 0 ≤ a1 ∧ a1 ≤ 1) (h2 : 0 ≤ a2 ∧ a2 ≤ 1) (h3 : 0 ≤ a3 ∧ a3 ≤ 1) (h4 : 0 ≤ a4 ∧ a4 ≤ 1) (h5 : 0 ≤ a5 ∧ a5 ≤ 1) (h6 : 0 ≤ a6 ∧ a6 ≤ 1) (h7 : 0 ≤ a7 ∧ a7 ≤ 1) {t : Nat} (ht : t < 8) (f : Nat → Int) (e0 : f 0 = a0) (e1 : f 1 = a1) (e2 : f 2 = a2) (e3 : f 3 = a3) (e4 : f 4 = a4) (e5 : f 5 = a5) (e6 : f 6 = a6) (e7 : f 7 = a7) :
    (a0 + (a1 * 2 + (a2 * 4 + (a3 * 8 + (a4 * 16 + (a5 * 32 + (a6 * 64 + a7 * 128))))))) / 2 ^ t % 2 = f t := by
  have hh : t = 0 ∨ t = 1 ∨ t = 2 ∨ t = 3 ∨ t = 4 ∨ t = 5 ∨ t = 6 ∨ t = 7 := by omega
  rcases hh with rfl | rfl | rfl | rfl | rfl | rfl | rfl | rfl
  · rw [e0]; omega
  · rw [e1]; omega
  · rw [e2]; omega
  · rw [e3]; omega
  · rw [e4]; omega
  · rw [e5]; omega
  · rw [e6]; omega
  · rw [e7]; omega

theorem byt_bit (x : List Int) (hx : Bin x) (k t : Nat) (ht : t < 8) (hk : 8 * k + t < x.length) : byt x x.length k / 2 ^ t % 2 = x.getD (8 * k + t) 0 := by
  have h : ∀ j, 0 ≤ (if j < x.length then x.getD j 0 else 0) ∧ (if j < x.length then x.getD j 0 else 0) ≤ 1 := by
    intro j
    split
    · have := hx _ (getD_mem (by assumption))
      omega
    · omega
  have e : byt x x.length k = (List.map (fun t => (if 8 * k + t < x.length then x.getD (8 * k + t) 0 else 0) * 2 ^ t) (List.range 8)).sum := by
    unfold byt
    congr 1
    refine List.map_congr_left fun t ht => ?_
    split <;> omega
  have e2 : x.getD (8 * k + t) 0 = (if 8 * k + t < x.length then x.getD (8 * k + t) 0 else 0) := by rw [if_pos hk]
  rw [e, e2]
  have h0 := h (8 * k + 0)
  have h1 := h (8 * k + 1)
  have h2 := h (8 * k + 2)
  have h3 := h (8 * k + 3)
  have h4 := h (8 * k + 4)
  have h5 := h (8 * k + 5)
  have h6 := h (8 * k + 6)
  have h7 := h (8 * k + 7)
  clear e e2 hk hx
  obtain ⟨f, hf⟩ : ∃ f : Nat → Int, (fun j => if j < x.length then x.getD j 0 else 0) = f := ⟨_, rfl⟩
  have hfj : ∀ j, (if j < x.length then x.getD j 0 else 0) = f j := fun j => congrFun hf j
  simp only [hfj] at h0 h1 h2 h3 h4 h5 h6 h7 ⊢
  clear hfj hf h
  have es : (List.map (fun t => f (8 * k + t) * 2 ^ t) (List.range 8)).sum = f (8 * k + 0) + (f (8 * k + 1) * 2 + (f (8 * k + 2) * 4 + (f (8 * k + 3) * 8 + (f (8 * k + 4) * 16 + (f (8 * k + 5) * 32 + (f (8 * k + 6) * 64 + f (8 * k + 7) * 128)))))) := by
    simp [List.range, List.range.loop]
  rw [es]
  exact eight h0 h1 h2 h3 h4 h5 h6 h7 ht (fun j => f (8 * k + j)) rfl rfl rfl rfl rfl rfl rfl rfl

/-- Bytes of bits, read again. -/
theorem bits_back (x : List Int) (hx : Bin x) : bitsOf x.length (bytesOf x) = x := by
  refine ext_getD (by unfold bitsOf; rw [bitsTo_len]) fun i hi => ?_
  have hi' : i < x.length := by
    unfold bitsOf at hi
    rw [bitsTo_len] at hi
    exact hi
  unfold bitsOf
  rw [bitsTo_get _ _ _ _ hi', if_pos hi']
  have hk : i / 8 < (x.length + 7) / 8 := by omega
  have := byt_bit x hx (i / 8) (i % 8) (by omega) (by omega)
  have e : 8 * (i / 8) + i % 8 = i := by omega
  rw [e] at this
  have e2 : (bytesOf x).getD (i / 8) 0 = byt x x.length (i / 8) := bytesTo_get x x.length _ hk
  rw [e2]
  exact this

/-- Turned twice. -/
theorem flip_twice (x l : List Int) : flipX (flipX x l) l = x := by
  refine ext_getD (by rw [flipX_len, flipX_len]) fun i hi => ?_
  rw [flipX_len, flipX_len] at hi
  rw [flipX_get _ _ _ (by rw [flipX_len]; exact hi), flipX_get _ _ _ hi]
  split <;> omega

/-- In whatever order. -/
theorem flip_order (x l r : List Int) (h : ∀ i, l.contains i = r.contains i) : flipX x l = flipX x r := by
  refine ext_getD (by rw [flipX_len, flipX_len]) fun i hi => ?_
  rw [flipX_len] at hi
  rw [flipX_get _ _ _ hi, flipX_get _ _ _ hi, h]

theorem contains_append (a b : List Int) (i : Int) : (a ++ b).contains i = (a.contains i || b.contains i) := by
  rw [Bool.eq_iff_iff, Bool.or_eq_true, List.contains_iff_mem, List.contains_iff_mem, List.contains_iff_mem, List.mem_append]

/-- In two calls, where none stands in both. -/
theorem flip_cut (x a b : List Int) (h : (a ++ b).Nodup) : flipX (flipX x a) b = flipX x (a ++ b) := by
  refine ext_getD (by rw [flipX_len, flipX_len, flipX_len]) fun i hi => ?_
  rw [flipX_len, flipX_len] at hi
  rw [flipX_get _ _ _ (by rw [flipX_len]; exact hi), flipX_get _ _ _ hi, flipX_get _ _ _ hi, contains_append]
  have hd := (List.nodup_append.1 h).2.2
  cases ha : a.contains (i : Int)
  · cases hb : b.contains (i : Int) <;> simp
  · cases hb : b.contains (i : Int)
    · simp
    · exact absurd rfl (hd _ (List.contains_iff_mem.1 ha) _ (List.contains_iff_mem.1 hb))

end Go.Proofs.Ytallblnkgmioeaa.st
