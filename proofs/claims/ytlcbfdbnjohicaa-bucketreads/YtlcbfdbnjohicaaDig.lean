/- Numbers as bytes, the greatest first: plain facts, with no word of the program. -/
import Derived.Test.YtlcbfdbnjohicaaHeap
import Derived.Laws.Entries
namespace Go.Proofs.Ytlcbfdbnjohicaa.dg
open Go.RowKit Go.Proofs.Ytlcbfdbnjohicaa.hp
set_option linter.unusedVariables false

/-- The byte at place k, from the least on. -/
def digit (n : Int) (k : Nat) : Int := n / 2 ^ (8 * k) % 256

/-- A number in k bytes. -/
def enc (n : Int) : Nat → List Int
  | 0 => []
  | k + 1 => digit n k :: enc n k

theorem enc_length (n : Int) (k : Nat) : (enc n k).length = k := by
  induction k with
  | zero => rfl
  | succ k ih => simp [enc, ih]

theorem digit_byte (n : Int) (k : Nat) : 0 ≤ digit n k ∧ digit n k ≤ 255 := by
  unfold digit
  omega

/-- Bytes, read. -/
def dec (acc : Int) (l : List Int) : Int := l.foldl (fun n d => n * 256 + d) acc

theorem pow_succ (k : Nat) : (2 : Int) ^ (8 * (k + 1)) = 2 ^ (8 * k) * 256 := by
  rw [show 8 * (k + 1) = 8 * k + 8 by omega, Int.pow_add]
  rfl

theorem pow_pos (k : Nat) : (1 : Int) ≤ 2 ^ (8 * k) := by
  have : (0 : Int) < 2 ^ (8 * k) := Int.pow_pos (by decide)
  omega

theorem emod_mul (n a : Int) (ha : 0 < a) : n % (a * 256) = n % a + a * (n / a % 256) := by
  have h1 := Int.emod_add_mul_ediv n a
  have h2 := Int.emod_add_mul_ediv (n / a) 256
  have h3 : n = n % a + a * (n / a % 256) + (a * 256) * (n / a / 256) := by
    have : a * (n / a) = a * (n / a % 256 + 256 * (n / a / 256)) := by rw [h2]
    rw [Int.mul_add, ← Int.mul_assoc] at this
    omega
  have b1 := Int.emod_nonneg n (show a ≠ 0 by omega)
  have b2 := Int.emod_lt_of_pos n ha
  have b3 := Int.emod_nonneg (n / a) (show (256 : Int) ≠ 0 by decide)
  have b4 := Int.emod_lt_of_pos (n / a) (show (0 : Int) < 256 by decide)
  have b5 : 0 ≤ a * (n / a % 256) := Int.mul_nonneg (by omega) b3
  have b6 : a * (n / a % 256) ≤ a * 255 := Int.mul_le_mul_of_nonneg_left (by omega) (by omega)
  conv => lhs; rw [h3]
  rw [Int.add_mul_emod_self_left]
  exact Int.emod_eq_of_lt (by omega) (by omega)

theorem dec_enc (n acc : Int) (k : Nat) : dec acc (enc n k) = acc * 2 ^ (8 * k) + n % 2 ^ (8 * k) := by
  induction k generalizing acc with
  | zero => simp [dec, enc]
  | succ k ih =>
    have h := ih (acc * 256 + digit n k)
    have hp := pow_pos k
    simp only [dec, enc, List.foldl_cons] at h ⊢
    rw [h, pow_succ, emod_mul n (2 ^ (8 * k)) (by omega)]
    unfold digit
    generalize (2 : Int) ^ (8 * k) = a
    generalize n / a % 256 = b
    rw [Int.add_mul, Int.mul_assoc, Int.mul_comm 256 a, Int.mul_comm b a]
    omega

/-- The greatest that k bytes hold. -/
def most (k : Nat) : Int := 2 ^ (8 * k) - 1

theorem dec_bound (l : List Int) (h : ∀ x ∈ l, 0 ≤ x ∧ x ≤ 255) (acc : Int) (k : Nat) (ha : 0 ≤ acc) (hb : acc < 2 ^ (8 * k)) : 0 ≤ dec acc l ∧ dec acc l < 2 ^ (8 * (k + l.length)) := by
  induction l generalizing acc k with
  | nil => exact ⟨ha, hb⟩
  | cons d l ih =>
    have hd := h d (by simp)
    have := ih (fun x hx => h x (by simp [hx])) (acc * 256 + d) (k + 1) (by omega) (by rw [pow_succ]; omega)
    rw [show k + (d :: l).length = k + 1 + l.length by simp; omega]
    exact this

theorem dec_append (acc : Int) (l : List Int) (d : Int) : dec acc (l ++ [d]) = dec acc l * 256 + d := by
  simp [dec]

/-- What a reader tells of k bytes. -/
def told (l : List Int) : Int := if dec 0 l = most l.length then -1 else dec 0 l

/-- May the number be written in so many bytes? -/
def okN (width n : Int) : Bool := decide (1 ≤ width ∧ width ≤ 7 ∧ -1 ≤ n ∧ n + 2 ≤ 2 ^ (8 * width.toNat))

theorem told_enc (n : Int) (k : Nat) (h1 : -1 ≤ n) (h2 : n + 2 ≤ 2 ^ (8 * k)) : told (enc n k) = n := by
  unfold told
  rw [dec_enc, enc_length]
  have hp := pow_pos k
  unfold most
  by_cases hn : n = -1
  · subst hn
    have : (-1 : Int) % 2 ^ (8 * k) = 2 ^ (8 * k) - 1 := by
      have e := Int.add_mul_emod_self_left (-1) (2 ^ (8 * k)) 1
      rw [← e, Int.mul_one]
      rw [Int.emod_eq_of_lt (a := -1 + 2 ^ (8 * k)) (by omega) (by omega)]
      omega
    rw [this]
    simp
  · rw [Int.emod_eq_of_lt (a := n) (by omega) (by omega)]
    rw [if_neg (by omega)]
    omega

theorem enc_most (k : Nat) : enc (most k) k = enc (-1) k := by
  have h : ∀ j, j ≤ k → enc (most k) j = enc (-1) j := by
    intro j hj
    induction j with
    | zero => rfl
    | succ j ih =>
      simp only [enc]
      rw [ih (by omega)]
      congr 1
      unfold digit most
      have hp := pow_pos j
      have e : (2 : Int) ^ (8 * k) = 2 ^ (8 * j) * (256 * 2 ^ (8 * (k - j - 1))) := by
        rw [show 8 * k = 8 * j + (8 + 8 * (k - j - 1)) by omega, Int.pow_add, Int.pow_add]
        rfl
      rw [e, show (2 : Int) ^ (8 * j) * (256 * 2 ^ (8 * (k - j - 1))) - 1 = -1 + 2 ^ (8 * j) * (256 * 2 ^ (8 * (k - j - 1))) by omega, Int.add_mul_ediv_left _ _ (by omega), Int.add_mul_emod_self_left]
  exact h k (Nat.le_refl _)

/-- x | d, where x's last byte is free. -/
theorem or_byte (x d : Int) (hx : 0 ≤ x) (hx2 : x * 256 + 255 < 9223372036854775808) (hd : 0 ≤ d) (hd2 : d ≤ 255) : bits .or .i64 (x * 256) d = x * 256 + d := by
  obtain ⟨a, rfl⟩ := Int.eq_ofNat_of_zero_le hx
  obtain ⟨b, rfl⟩ := Int.eq_ofNat_of_zero_le hd
  have e := Nat.two_pow_add_eq_or_of_lt (show b < 2 ^ 8 by omega) a
  have h1 : ((a : Int) * 256) = ((a * 256 : Nat) : Int) := by omega
  have m1 : a * 256 % 2 ^ 64 = a * 256 := Nat.mod_eq_of_lt (by omega)
  have m2 : b % 2 ^ 64 = b := Nat.mod_eq_of_lt (by omega)
  have hb : (BitVec.ofInt 64 ((a * 256 : Nat) : Int) ||| BitVec.ofInt 64 (b : Int)).toNat = 2 ^ 8 * a + b := by
    rw [BitVec.toNat_or, BitVec.ofInt_natCast, BitVec.ofInt_natCast, BitVec.toNat_ofNat, BitVec.toNat_ofNat, m1, m2, show a * 256 = 2 ^ 8 * a by omega, ← e]
  have : bits .or .i64 ((a * 256 : Nat) : Int) (b : Int) = IntKind.i64.wrap ((BitVec.ofInt 64 ((a * 256 : Nat) : Int) ||| BitVec.ofInt 64 (b : Int)).toNat : Int) := rfl
  rw [h1, this, hb]
  simp [IntKind.wrap, IntKind.bits, IntKind.signed]
  omega

theorem pow_le (k : Nat) (h : k ≤ 7) : (2 : Int) ^ (8 * k) ≤ 72057594037927936 := by
  have hc : k = 0 ∨ k = 1 ∨ k = 2 ∨ k = 3 ∨ k = 4 ∨ k = 5 ∨ k = 6 ∨ k = 7 := by omega
  rcases hc with rfl | rfl | rfl | rfl | rfl | rfl | rfl | rfl <;> decide

theorem most_wrap (k : Nat) (h : k ≤ 7) : wrap64 (wrap64 (2 ^ (8 * k)) - 1) = most k := by
  have h1 := pow_le k h
  have h2 := pow_pos k
  rw [IntWalk.wrap64_in (2 ^ (8 * k)) ⟨by omega, by omega⟩, IntWalk.wrap64_in _ ⟨by omega, by omega⟩]
  rfl

/-- How many pieces of this size hold so many bytes. -/
def ncell (l s : Nat) : Nat := if s = 0 then 0 else (l + s - 1) / s

theorem ncell_cells (l s : Nat) (h1 : 1 ≤ l) (h2 : 1 ≤ s) : (((l : Int) - 1) / s + 1) = (ncell l s : Int) := by
  unfold ncell
  rw [if_neg (by omega), show l + s - 1 = (l - 1) + s by omega, Nat.add_div_right _ (by omega)]
  rw [show ((l : Int) - 1) = ((l - 1 : Nat) : Int) by omega]
  simp

theorem ncell_ref (l s : Nat) (h1 : 1 ≤ l) (h2 : 1 ≤ s) : (ncell l s : Int) = if 0 < (l : Int) % s then (l : Int) / s + 1 else (l : Int) / s := by
  have e := Nat.div_add_mod l s
  have hm := Nat.mod_lt l (show s > 0 by omega)
  unfold ncell
  rw [if_neg (by omega)]
  split
  · rename_i hr
    have hr' : 0 < l % s := by omega
    have : (l + s - 1) / s = l / s + 1 := by
      rw [show l + s - 1 = (l % s - 1) + s * (l / s + 1) by rw [Nat.mul_add]; omega, Nat.add_mul_div_left _ _ (by omega), Nat.div_eq_of_lt (by omega)]
      omega
    rw [this]
    simp
  · rename_i hr
    have hr' : l % s = 0 := by omega
    have : (l + s - 1) / s = l / s := by
      rw [show l + s - 1 = (s - 1) + s * (l / s) by omega, Nat.add_mul_div_left _ _ (by omega), Nat.div_eq_of_lt (by omega)]
      omega
    rw [this]
    simp

theorem ncell_lt (l s i : Nat) (h : i < ncell l s) : i * s < l ∧ 1 ≤ s := by
  unfold ncell at h
  split at h
  · omega
  · have := (Nat.lt_div_iff_mul_lt (by omega)).1 h
    have h3 : s * i = i * s := Nat.mul_comm _ _
    omega

theorem ncell_ge (l s : Nat) (h : 1 ≤ s) : l ≤ ncell l s * s := by
  unfold ncell
  rw [if_neg (by omega)]
  have h1 := Nat.div_add_mod (l + s - 1) s
  have h2 := Nat.mod_lt (l + s - 1) (show s > 0 by omega)
  have h3 : s * ((l + s - 1) / s) = (l + s - 1) / s * s := Nat.mul_comm _ _
  omega

theorem ncell_le (l s : Nat) : ncell l s ≤ l := by
  unfold ncell
  split
  · omega
  · by_cases h : l = 0
    · subst h
      rw [Nat.div_eq_of_lt (by omega)]
      omega
    · have h3 : (l + s - 1) / s < l + 1 := by
        rw [Nat.div_lt_iff_lt_mul (by omega)]
        have h4 : (l - 1) * 1 ≤ (l - 1) * s := Nat.mul_le_mul_left _ (by omega)
        have h5 : (l + 1) * s = (l - 1) * s + 2 * s := by rw [← Nat.add_mul]; congr 1; omega
        omega
      omega

end Go.Proofs.Ytlcbfdbnjohicaa.dg
