/- LayApart: plain facts on what is marked; areas apart. -/
import Derived.Test.YtfhpdcimdeilpaaMk
import Derived.Test.YtfhpdcimdeilpaaBap
namespace Go.Proofs.Ytfhpdcimdeilpaa.st
set_option linter.unusedVariables false
set_option linter.unusedSimpArgs false

def cov (lo hi k : Nat) : Bool := decide (lo ≤ k) && decide (k < hi)
/-- The cells of two stretches. -/
def cov2 (a b c d : Nat) : Nat → Bool := fun k => cov a b k || cov c d k

theorem cov_t {lo hi k : Nat} (h : lo ≤ k ∧ k < hi) : cov lo hi k = true := by unfold cov; rw [decide_eq_true h.1, decide_eq_true h.2]; rfl
theorem cov_f {lo hi k : Nat} (h : k < lo ∨ hi ≤ k) : cov lo hi k = false := by
  unfold cov
  rcases h with h | h
  · rw [decide_eq_false (p := lo ≤ k) (by omega), Bool.false_and]
  · rw [decide_eq_false (p := k < hi) (by omega), Bool.and_false]

theorem free1 {a s b C : Nat} (h : a + C ≤ s) : ∀ k, a ≤ k → k < a + C → cov2 2 a s b k = false := fun k h1 h2 => by
  unfold cov2
  rw [cov_f (.inr h1), cov_f (.inl (by omega))]
  rfl

theorem free2 {a s b C : Nat} (h : a ≤ s) (h2 : s ≤ b) : ∀ k, b ≤ k → k < b + C → cov2 2 a s b k = false := fun k h3 h4 => by
  unfold cov2
  rw [cov_f (.inr (by omega)), cov_f (.inr h3)]
  rfl

theorem cov_add {lo hi C k : Nat} (h : lo ≤ hi) : (cov lo hi k || (decide (hi ≤ k) && decide (k < hi + C))) = cov lo (hi + C) k := by
  by_cases h1 : lo ≤ k ∧ k < hi
  · rw [cov_t h1, cov_t ⟨h1.1, by omega⟩]
    rfl
  · by_cases h2 : hi ≤ k ∧ k < hi + C
    · rw [decide_eq_true h2.1, decide_eq_true h2.2, cov_t (lo := lo) (hi := hi + C) ⟨by omega, h2.2⟩]
      simp
    · rw [cov_f (lo := lo) (hi := hi) (by omega), cov_f (lo := lo) (hi := hi + C) (by omega)]
      by_cases h3 : hi ≤ k
      · rw [decide_eq_false (p := k < hi + C) (by omega)]
        simp
      · rw [decide_eq_false h3]
        rfl

theorem grow1 {a s b C : Nat} (h : 2 ≤ a) : add (cov2 2 a s b) a C = cov2 2 (a + C) s b := by
  funext k
  unfold add cov2
  rw [← cov_add h]
  cases cov 2 a k <;> cases cov s b k <;> simp

theorem grow2 {a s b C : Nat} (h : s ≤ b) : add (cov2 2 a s b) b C = cov2 2 a s (b + C) := by
  funext k
  unfold add cov2
  rw [← cov_add h, Bool.or_assoc]

theorem cov_none (s k : Nat) : cov2 2 2 s s k = false := by
  unfold cov2
  rw [cov_f (by omega), cov_f (by omega)]
  rfl

theorem cov_all {s t k : Nat} (h : 2 ≤ k ∧ k < t) (hs : 2 ≤ s ∧ s ≤ t) : cov2 2 s s t k = true := by
  unfold cov2
  by_cases h1 : k < s
  · rw [cov_t ⟨h.1, h1⟩]
    rfl
  · rw [cov_t (lo := s) (hi := t) ⟨by omega, h.2⟩, Bool.or_true]

/-- Where the i-th Delta of two periods begins. -/
def dIx (p i : Nat) : Nat := if i ≤ p then i - 1 else i - 2

theorem dAt_ix {K : Cf} (hK : okC K) (i : Nat) (h1 : 1 ≤ i) (h2 : i < 2 * K.p) (h3 : i ≠ K.p) : i % K.p ≠ 0 ∧ dAt K i = st2 K + dIx K.p i * cDelta K ∧ dIx K.p (i + 1) = dIx K.p i + 1 := by
  have hp := hK.p
  by_cases h : i < K.p
  · have e1 : i / K.p = 0 := Nat.div_eq_of_lt h
    have e2 : i % K.p = i := Nat.mod_eq_of_lt h
    refine ⟨by omega, ?_, by unfold dIx; rw [if_pos (by omega), if_pos (by omega)]; omega⟩
    unfold dAt dIx
    rw [e1, e2, if_pos (by omega)]
    simp
  · have e0 : i = (i - K.p) + K.p := by omega
    have e1 : i / K.p = 1 := by
      rw [e0, (per1 (i - K.p) hp.1).1, Nat.div_eq_of_lt (by omega)]
    have e2 : i % K.p = i - K.p := by
      rw [e0, (per1 (i - K.p) hp.1).2, Nat.mod_eq_of_lt (by omega)]
      omega
    refine ⟨by omega, ?_, by unfold dIx; rw [if_neg (by omega), if_neg (by omega)]; omega⟩
    unfold dAt dIx
    rw [e1, e2, if_neg (by omega)]
    have : 1 % 2 * (K.p - 1) + (i - K.p) - 1 = i - 2 := by
      simp
      omega
    rw [this]

theorem dIx_end (p : Nat) (h : 1 ≤ p) : dIx p (2 * p) = 2 * (p - 1) := by
  unfold dIx
  by_cases h1 : 2 * p ≤ p
  · omega
  · rw [if_neg h1]
    omega

theorem dIx_mid (p : Nat) : dIx p (p + 1) = dIx p p := by
  unfold dIx
  rw [if_neg (by omega), if_pos (by omega)]
  omega

theorem dIx_le (p i : Nat) (h : i ≤ 2 * p) : dIx p i ≤ 2 * (p - 1) ∨ i = 0 := by
  unfold dIx
  split <;> omega

/-- What is written for a commit is not where the last ones of its period lie. -/
theorem check_apart {K : Cf} (hK : okC K) (i q : Nat) (h1 : i - i % K.p ≤ q) (h2 : q ≤ i) :
    (checkA K (q : Int)).1 + (checkA K (q : Int)).2 ≤ (checkA K ((i + 1 : Nat) : Int)).1 ∨ (checkA K ((i + 1 : Nat) : Int)).1 + (checkA K ((i + 1 : Nat) : Int)).2 ≤ (checkA K (q : Int)).1 := by
  have hp := hK.p
  have hf := (small hK).full
  have hdm := Nat.div_add_mod i K.p
  have hml := Nat.mod_lt i (show K.p > 0 by omega)
  obtain ⟨B, hB⟩ : ∃ B, i / K.p = B := ⟨_, rfl⟩
  obtain ⟨m, hm⟩ : ∃ m, i % K.p = m := ⟨_, rfl⟩
  rw [hB, hm] at hdm
  rw [hm] at h1 hml
  obtain ⟨u, hu⟩ : ∃ u, q = K.p * B + u := ⟨q - K.p * B, by omega⟩
  have hum : u ≤ m := by omega
  have hqm : q % K.p = u := by rw [hu, Nat.mul_add_mod, Nat.mod_eq_of_lt (by omega)]
  have hqd : q / K.p = B := by rw [hu, Nat.mul_add_div (by omega), Nat.div_eq_of_lt (by omega), Nat.add_zero]
  have delta_val : ∀ x : Nat, x % K.p ≠ 0 → checkA K (x : Int) = ((dAt K x : Int), (cDelta K : Int)) := fun x hx => by
    rw [check_delta x hx]
    unfold deltaA
    rw [Int.toNat_natCast, if_pos ⟨by omega, hx⟩]
  have full_val : ∀ x : Nat, x % K.p = 0 → checkA K (x : Int) = (((st3 K + x / K.p % 2 * cFull K : Nat) : Int), (cFull K : Int)) := fun x hx => by
    rw [check_full x hx]
    unfold fullA
    rw [Int.toNat_natCast, if_pos (by omega)]
  by_cases hlast : m + 1 = K.p
  · have e1 : (i + 1) % K.p = 0 := by rw [← hdm, show K.p * B + m + 1 = K.p * B + K.p by omega, Nat.mul_add_mod, Nat.mod_self]
    have e2 : (i + 1) / K.p = B + 1 := by rw [← hdm, show K.p * B + m + 1 = K.p * B + K.p by omega, Nat.mul_add_div (by omega), Nat.div_self (by omega)]
    rw [full_val (i + 1) e1, e2]
    by_cases h0 : u = 0
    · rw [full_val q (by omega), hqd]
      simp only
      have hc : B % 2 = 0 ∧ (B + 1) % 2 = 1 ∨ B % 2 = 1 ∧ (B + 1) % 2 = 0 := by omega
      rcases hc with ⟨a, b⟩ | ⟨a, b⟩ <;> rw [a, b] <;> simp <;> omega
    · rw [delta_val q (by omega)]
      have := (dAt_in hK q (by omega)).2
      simp only
      left
      omega
  · have e1 : (i + 1) % K.p = m + 1 := by rw [← hdm, show K.p * B + m + 1 = K.p * B + (m + 1) by omega, Nat.mul_add_mod, Nat.mod_eq_of_lt (by omega)]
    have e2 : (i + 1) / K.p = B := by rw [← hdm, show K.p * B + m + 1 = K.p * B + (m + 1) by omega, Nat.mul_add_div (by omega), Nat.div_eq_of_lt (by omega), Nat.add_zero]
    rw [delta_val (i + 1) (by omega)]
    by_cases h0 : u = 0
    · rw [full_val q (by omega)]
      have := (dAt_in hK (i + 1) (by omega)).2
      simp only
      right
      omega
    · rw [delta_val q (by omega)]
      simp only
      left
      unfold dAt
      rw [e1, e2, hqm, hqd]
      obtain ⟨x, hx⟩ : ∃ x, B % 2 * (K.p - 1) = x := ⟨_, rfl⟩
      rw [hx]
      have h3 : (x + u - 1) * cDelta K + cDelta K ≤ (x + (m + 1) - 1) * cDelta K := by
        have := Nat.mul_le_mul_right (cDelta K) (show x + u - 1 + 1 ≤ x + (m + 1) - 1 by omega)
        rw [Nat.add_mul, Nat.one_mul] at this
        exact this
      omega

end Go.Proofs.Ytfhpdcimdeilpaa.st
