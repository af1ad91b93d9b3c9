/- Batches, periods: plain facts. -/
import Derived.Test.YtfhpdcimdeilpaaDf
namespace Go.Proofs.Ytfhpdcimdeilpaa.st
set_option linter.unusedVariables false
set_option linter.unusedSimpArgs false

/-- The first t batches, from number -1 on. -/
def bs (K : Cf) : Nat → Int
  | 0 => 0
  | t + 1 => bs K t + batchI K ((t : Int) - 1)

theorem bs_low (K : Cf) : ∀ t, t ≤ K.r → bs K (t + 1) = ((t * K.rd : Nat) : Int)
  | 0, _ => by
    have e : batchI K ((0 : Nat) - 1 : Int) = 0 := by
      unfold batchI
      rw [if_neg (by omega), if_neg (by omega)]
    show bs K 0 + batchI K ((0 : Nat) - 1 : Int) = _
    rw [e]
    simp [bs]
  | t + 1, h => by
    have ih := bs_low K t (by omega)
    have e : batchI K (((t + 1 : Nat) : Int) - 1) = K.rd := by
      unfold batchI
      rw [if_pos ⟨by omega, by omega⟩]
    show bs K (t + 1) + batchI K (((t + 1 : Nat) : Int) - 1) = _
    rw [e, ih, Nat.add_mul, Nat.one_mul]
    omega

theorem bs_all (K : Cf) : bs K (K.r + 3) = ((slotsN K : Nat) : Int) := by
  have h0 := bs_low K K.r (Nat.le_refl _)
  have e1 : batchI K (((K.r + 1 : Nat) : Int) - 1) = K.wr := by
    unfold batchI
    rw [if_neg (by omega), if_pos (by omega)]
  have e2 : batchI K (((K.r + 2 : Nat) : Int) - 1) = 0 := by
    unfold batchI
    rw [if_neg (by omega), if_neg (by omega)]
  show bs K (K.r + 1) + batchI K (((K.r + 1 : Nat) : Int) - 1) + batchI K (((K.r + 2 : Nat) : Int) - 1) = _
  rw [h0, e1, e2]
  unfold slotsN
  omega

theorem bs_le {K : Cf} (hK : okC K) : ∀ t, 0 ≤ bs K t ∧ bs K t ≤ 8 * t
  | 0 => by simp [bs]
  | t + 1 => by
    have ih := bs_le hK t
    have h1 := hK.rd
    have h2 := hK.wr
    have : 0 ≤ batchI K ((t : Int) - 1) ∧ batchI K ((t : Int) - 1) ≤ 8 := by
      unfold batchI
      split
      · omega
      · split <;> omega
    show 0 ≤ bs K t + batchI K ((t : Int) - 1) ∧ bs K t + batchI K ((t : Int) - 1) ≤ _
    omega

/-- A Delta lies between its area's ends. -/
theorem dAt_in {K : Cf} (hK : okC K) (q : Nat) (h : q % K.p ≠ 0) : st2 K ≤ dAt K q ∧ dAt K q + cDelta K ≤ st3 K := by
  have hp := hK.p
  have hm := Nat.mod_lt q (show K.p > 0 by omega)
  unfold dAt st3
  obtain ⟨m, hm'⟩ : ∃ m, q % K.p = m := ⟨_, rfl⟩
  obtain ⟨d, hd⟩ : ∃ d, q / K.p % 2 = d := ⟨_, rfl⟩
  have hd2 : d ≤ 1 := by omega
  rw [hm'] at h hm ⊢
  rw [hd]
  obtain ⟨u, hu⟩ : ∃ u, K.p - 1 = u := ⟨_, rfl⟩
  rw [hu]
  have h1 : d * u ≤ u := by
    have := Nat.mul_le_mul_right u hd2
    omega
  refine ⟨Nat.le_add_right _ _, ?_⟩
  have h2 : d * u + m - 1 + 1 ≤ 2 * u := by omega
  have h3 := Nat.mul_le_mul_right (cDelta K) h2
  rw [Nat.add_mul, Nat.one_mul] at h3
  omega

theorem per2 {p : Nat} (q : Nat) (hp : 1 ≤ p) : (q + 2 * p) / p = q / p + 2 ∧ (q + 2 * p) % p = q % p := by
  constructor
  · rw [Nat.mul_comm, Nat.add_mul_div_left _ _ (by omega)]
  · rw [Nat.mul_comm, Nat.add_mul_mod_self_left]

theorem per1 {p : Nat} (q : Nat) (hp : 1 ≤ p) : (q + p) / p = q / p + 1 ∧ (q + p) % p = q % p := by
  constructor
  · exact Nat.add_div_right q (by omega)
  · exact Nat.add_mod_right q p

theorem check_full {K : Cf} (q : Nat) (h : q % K.p = 0) : checkA K (q : Int) = fullA K (q : Int) := by
  unfold checkA
  rw [Int.toNat_natCast, if_pos ⟨by omega, h⟩]

theorem check_delta {K : Cf} (q : Nat) (h : q % K.p ≠ 0) : checkA K (q : Int) = deltaA K (q : Int) := by
  unfold checkA
  rw [Int.toNat_natCast, if_neg (fun x => h x.2)]

theorem delta_full {K : Cf} (hK : okC K) (q : Nat) (h : q % K.p ≠ 0) : (deltaA K (q : Int)).1 < (fullA K (q : Int)).1 := by
  have h1 := (dAt_in hK q h).2
  have h2 := (small hK).delta
  unfold deltaA fullA
  rw [Int.toNat_natCast, if_pos ⟨by omega, h⟩, if_pos (by omega)]
  simp only
  omega

theorem check_again {K : Cf} (hK : okC K) (q : Nat) : checkA K (((q + 2 * K.p : Nat)) : Int) = checkA K (q : Int) := by
  obtain ⟨h1, h2⟩ := per2 q hK.p.1
  have h3 : (q / K.p + 2) % 2 = q / K.p % 2 := by omega
  have hd : dAt K (q + 2 * K.p) = dAt K q := by unfold dAt; rw [h1, h2, h3]
  unfold checkA fullA deltaA
  rw [Int.toNat_natCast, Int.toNat_natCast, h1, h2, h3, hd]
  have e1 : (0 ≤ (((q + 2 * K.p : Nat)) : Int)) = True := by simp; omega
  have e2 : (0 ≤ (q : Int)) = True := by simp
  simp only [e1, e2]

theorem full_next {K : Cf} (hK : okC K) (q : Nat) : (fullA K (q : Int)).1 ≠ (fullA K (((q + K.p : Nat)) : Int)).1 := by
  obtain ⟨h1, h2⟩ := per1 q hK.p.1
  have hf := (small hK).full
  unfold fullA
  rw [Int.toNat_natCast, Int.toNat_natCast, h1, if_pos (by omega), if_pos (by omega)]
  simp only
  obtain ⟨d, hd⟩ : ∃ d, q / K.p = d := ⟨_, rfl⟩
  rw [hd]
  have : d % 2 = 0 ∧ (d + 1) % 2 = 1 ∨ d % 2 = 1 ∧ (d + 1) % 2 = 0 := by omega
  rcases this with ⟨a, b⟩ | ⟨a, b⟩ <;> rw [a, b] <;> simp <;> omega

/-- How many of the numbers from s on, k of them, are whole ones. -/
theorem whole_step {p : Nat} (q : Nat) (hp : 1 ≤ p) : (q + 1 + p - 1) / p = (q + p - 1) / p + (if q % p = 0 then 1 else 0) := by
  have e : q + 1 + p - 1 = q + p := by omega
  rw [e, (per1 q hp).1]
  have h1 := Nat.div_add_mod q p
  have h2 := Nat.mod_lt q (show p > 0 by omega)
  obtain ⟨d, hd⟩ : ∃ d, q / p = d := ⟨_, rfl⟩
  obtain ⟨m, hm⟩ : ∃ m, q % p = m := ⟨_, rfl⟩
  rw [hd, hm] at h1
  rw [hm] at h2
  rw [hd, hm]
  by_cases h : m = 0
  · rw [if_pos h]
    have : (q + p - 1) / p = d := by
      refine Nat.div_eq_of_lt_le ?_ ?_
      · rw [Nat.mul_comm]
        omega
      · rw [Nat.add_mul, Nat.mul_comm d]
        omega
    omega
  · rw [if_neg h]
    have : (q + p - 1) / p = d + 1 := by
      refine Nat.div_eq_of_lt_le ?_ ?_
      · rw [Nat.add_mul, Nat.mul_comm d]
        omega
      · rw [Nat.add_mul, Nat.add_mul, Nat.mul_comm d]
        omega
    omega

theorem whole_all {p : Nat} (s : Nat) (hp : 1 ≤ p) : (s + p + p - 1) / p = (s + p - 1) / p + 1 := by
  have e : s + p + p - 1 = (s + p - 1) + p := by omega
  rw [e, (per1 _ hp).1]

end Go.Proofs.Ytfhpdcimdeilpaa.st
