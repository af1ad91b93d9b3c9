/- Bits that lie eight a byte, held bit by bit: or, xor, and. Plain lists. -/
import Derived.Test.YtallblnkgmioeaaBtf
import Derived.Laws.BitsAllLaws
namespace Go.Proofs.Ytallblnkgmioeaa.st
open Go.Proofs.Ytallblnkgmioeaa.hp Go.Proofs.Ytallblnkgmioeaa.bt
set_option linter.unusedVariables false
set_option linter.unusedSimpArgs false

/-- The bit, 0 behind the last one. -/
def bitAt (x : List Int) (j : Nat) : Int := if j < x.length then x.getD j 0 else 0

theorem bitAt_bin {x : List Int} (hx : Bin x) (j : Nat) : 0 ≤ bitAt x j ∧ bitAt x j ≤ 1 := by
  unfold bitAt
  split
  · have := hx _ (getD_mem (by assumption))
    omega
  · omega

theorem byt_at (x : List Int) (hx : Bin x) (k t : Nat) (ht : t < 8) : byt x x.length k / 2 ^ t % 2 = bitAt x (8 * k + t) := by
  have h := bitAt_bin hx
  have e : byt x x.length k = (List.map (fun t => bitAt x (8 * k + t) * 2 ^ t) (List.range 8)).sum := by
    unfold byt
    congr 1
    refine List.map_congr_left fun t ht => ?_
    unfold bitAt
    split <;> omega
  rw [e]
  have es : (List.map (fun t => bitAt x (8 * k + t) * 2 ^ t) (List.range 8)).sum = bitAt x (8 * k + 0) + (bitAt x (8 * k + 1) * 2 + (bitAt x (8 * k + 2) * 4 + (bitAt x (8 * k + 3) * 8 + (bitAt x (8 * k + 4) * 16 + (bitAt x (8 * k + 5) * 32 + (bitAt x (8 * k + 6) * 64 + bitAt x (8 * k + 7) * 128)))))) := by
    simp [List.range, List.range.loop]
  rw [es]
  exact eight (h _) (h _) (h _) (h _) (h _) (h _) (h _) (h _) ht (fun j => bitAt x (8 * k + j)) rfl rfl rfl rfl rfl rfl rfl rfl

/-- Bytes of like bits. -/
theorem byte_ext {A B : Int} (hA : 0 ≤ A ∧ A ≤ 255) (hB : 0 ≤ B ∧ B ≤ 255) (h : ∀ t, t < 8 → A / 2 ^ t % 2 = B / 2 ^ t % 2) : A = B := by
  have h0 := h 0 (by omega)
  have h1 := h 1 (by omega)
  have h2 := h 2 (by omega)
  have h3 := h 3 (by omega)
  have h4 := h 4 (by omega)
  have h5 := h 5 (by omega)
  have h6 := h 6 (by omega)
  have h7 := h 7 (by omega)
  simp at h0 h1 h2 h3 h4 h5 h6 h7
  omega

theorem or_dec : ∀ (A : Fin 256) (t s : Fin 8), (A.val ||| 2 ^ t.val) / 2 ^ s.val % 2 = if s.val = t.val then 1 else A.val / 2 ^ s.val % 2 := by decide +kernel
theorem or_lt : ∀ (A : Fin 256) (t : Fin 8), (A.val ||| 2 ^ t.val) < 256 := by decide +kernel
theorem and_dec : ∀ (A : Fin 256) (t : Fin 8), (A.val &&& 2 ^ t.val) = if A.val / 2 ^ t.val % 2 = 0 then 0 else 2 ^ t.val := by decide +kernel
theorem high_dec : ∀ (A : Fin 256) (u : Fin 9), (∀ t : Fin 8, u.val ≤ t.val → A.val / 2 ^ t.val % 2 = 0) ↔ A.val / 2 ^ u.val = 0 := by decide +kernel
theorem pow_lt8 : ∀ t : Fin 8, 2 ^ t.val < 256 := by decide

theorem pow_int (t : Nat) : ((2 : Int) ^ t) = ((2 ^ t : Nat) : Int) := by simp

theorem div_mod_nat (A t : Nat) : (A : Int) / 2 ^ t % 2 = ((A / 2 ^ t % 2 : Nat) : Int) := by rw [pow_int]; rfl

theorem or_byte (A : Int) (hA : 0 ≤ A ∧ A ≤ 255) (t : Nat) (ht : t < 8) : (0 ≤ bits .or .u8 A (2 ^ t) ∧ bits .or .u8 A (2 ^ t) ≤ 255) ∧ ∀ s, s < 8 → bits .or .u8 A (2 ^ t) / 2 ^ s % 2 = if s = t then 1 else A / 2 ^ s % 2 := by
  obtain ⟨a, rfl⟩ : ∃ a : Nat, A = a := ⟨A.toNat, by omega⟩
  have hp := pow_lt8 ⟨t, ht⟩
  simp only at hp
  rw [pow_int t, u8_or_nat a (2 ^ t) (by omega) hp]
  have h1 := or_lt ⟨a, by omega⟩ ⟨t, ht⟩
  simp only at h1
  refine ⟨⟨by omega, by omega⟩, fun s hs => ?_⟩
  have h2 := or_dec ⟨a, by omega⟩ ⟨t, ht⟩ ⟨s, hs⟩
  simp only at h2
  rw [div_mod_nat, div_mod_nat, h2]
  split <;> rfl

theorem and_byte (A : Int) (hA : 0 ≤ A ∧ A ≤ 255) (t : Nat) (ht : t < 8) : bits .and .u8 A (2 ^ t) = if A / 2 ^ t % 2 = 0 then 0 else 2 ^ t := by
  obtain ⟨a, rfl⟩ : ∃ a : Nat, A = a := ⟨A.toNat, by omega⟩
  have hp := pow_lt8 ⟨t, ht⟩
  simp only at hp
  have h1 := and_dec ⟨a, by omega⟩ ⟨t, ht⟩
  simp only at h1
  rw [div_mod_nat, pow_int t, u8_and_nat a (2 ^ t) (by omega) hp, h1]
  by_cases h : a / 2 ^ t % 2 = 0
  · rw [if_pos h, if_pos (by omega)]
    rfl
  · rw [if_neg h, if_neg (by omega)]

theorem bit_of (a t : Nat) : a / 2 ^ t % 2 = (a.testBit t).toNat := by
  rw [Nat.testBit_eq_decide_div_mod_eq]
  have : a / 2 ^ t % 2 = 0 ∨ a / 2 ^ t % 2 = 1 := by omega
  rcases this with h | h <;> rw [h] <;> rfl

theorem xor_byte (A B : Int) (hA : 0 ≤ A ∧ A ≤ 255) (hB : 0 ≤ B ∧ B ≤ 255) : (0 ≤ bits .xor .u8 A B ∧ bits .xor .u8 A B ≤ 255) ∧ ∀ s, s < 8 → bits .xor .u8 A B / 2 ^ s % 2 = (A / 2 ^ s % 2 + B / 2 ^ s % 2) % 2 := by
  obtain ⟨a, rfl⟩ : ∃ a : Nat, A = a := ⟨A.toNat, by omega⟩
  obtain ⟨b, rfl⟩ : ∃ b : Nat, B = b := ⟨B.toNat, by omega⟩
  rw [u8_xor_nat a b (by omega) (by omega)]
  have h1 : a ^^^ b < 2 ^ 8 := Nat.xor_lt_two_pow (by omega) (by omega)
  refine ⟨⟨by omega, by omega⟩, fun s hs => ?_⟩
  rw [div_mod_nat, div_mod_nat, div_mod_nat, bit_of, bit_of, bit_of, Nat.testBit_xor]
  cases a.testBit s <;> cases b.testBit s <;> rfl

theorem bytesOf_len (x : List Int) : (bytesOf x).length = (x.length + 7) / 8 := bytesTo_len x _

theorem bytesOf_get (x : List Int) (k : Nat) (hk : k < (x.length + 7) / 8) : (bytesOf x).getD k 0 = byt x x.length k := bytesTo_get x _ _ hk

theorem bitAt_flip (n : Nat) (l : List Int) (j : Nat) : bitAt (flipX (List.replicate n 0) l) j = if j < n ∧ l.contains (j : Int) = true then 1 else 0 := by
  unfold bitAt
  rw [flipX_len, List.length_replicate]
  by_cases h : j < n
  · rw [if_pos h, flipX_get _ _ _ (by rw [List.length_replicate]; exact h), List.getD_eq_getElem?_getD, List.getElem?_replicate, if_pos h]
    cases l.contains (j : Int) <;> simp [h]
  · rw [if_neg h, if_neg (by omega)]

theorem zeros_bin (n : Nat) : Bin (List.replicate n 0) := fun v hv => .inl (List.eq_of_mem_replicate hv)

/-- One more named: its bit laid into its byte. -/
theorem bytes_or (n : Nat) (l : List Int) (u : Nat) (hu : u < n) : bytesOf (flipX (List.replicate n 0) (l ++ [(u : Int)])) = (bytesOf (flipX (List.replicate n 0) l)).set (u / 8) (bits .or .u8 ((bytesOf (flipX (List.replicate n 0) l)).getD (u / 8) 0) (2 ^ (u % 8))) := by
  have hb1 := flipX_bin (zeros_bin n) l
  have hb2 := flipX_bin (zeros_bin n) (l ++ [(u : Int)])
  have hl1 : (flipX (List.replicate n 0) l).length = n := by rw [flipX_len, List.length_replicate]
  have hl2 : (flipX (List.replicate n 0) (l ++ [(u : Int)])).length = n := by rw [flipX_len, List.length_replicate]
  have f1 := bitAt_flip n l
  have f2 := bitAt_flip n (l ++ [(u : Int)])
  obtain ⟨X, hX⟩ : ∃ X, flipX (List.replicate n 0) l = X := ⟨_, rfl⟩
  obtain ⟨Y, hY⟩ : ∃ Y, flipX (List.replicate n 0) (l ++ [(u : Int)]) = Y := ⟨_, rfl⟩
  rw [hX] at hb1 hl1 f1 ⊢
  rw [hY] at hb2 hl2 f2 ⊢
  refine ext_getD (by rw [List.length_set, bytesOf_len, bytesOf_len, hl1, hl2]) fun k hk => ?_
  rw [bytesOf_len, hl2] at hk
  have e1 := bytesOf_get X k (by rw [hl1]; exact hk)
  have e2 := bytesOf_get Y k (by rw [hl2]; exact hk)
  have b1 := byt_bounds X hb1 k
  have b2 := byt_bounds Y hb2 k
  have a1 := byt_at X hb1 k
  have a2 := byt_at Y hb2 k
  rw [e2, List.getD_eq_getElem?_getD (l := List.set _ _ _), List.getElem?_set]
  by_cases e : u / 8 = k
  · subst e
    rw [if_pos rfl, if_pos (by rw [bytesOf_len, hl1]; exact hk), e1, Option.getD_some]
    obtain ⟨o1, o2⟩ := or_byte _ b1 (u % 8) (by omega)
    refine byte_ext b2 o1 fun t ht => ?_
    rw [o2 t ht, a1 t ht, a2 t ht, f1, f2, contains_snoc]
    by_cases h : t = u % 8
    · have : ((u : Int) == ((8 * (u / 8) + t : Nat) : Int)) = true := by simp; omega
      rw [if_pos h, this, Bool.or_true, if_pos ⟨by omega, rfl⟩]
    · have : ((u : Int) == ((8 * (u / 8) + t : Nat) : Int)) = false := by simp; omega
      rw [if_neg h, this, Bool.or_false]
  · rw [if_neg e, ← List.getD_eq_getElem?_getD, e1]
    refine byte_ext b2 b1 fun t ht => ?_
    rw [a1 t ht, a2 t ht, f1, f2, contains_snoc]
    have : ((u : Int) == ((8 * k + t : Nat) : Int)) = false := by simp; omega
    rw [this, Bool.or_false]

/-- The bits that are named turned, byte by byte. -/
theorem bytes_xor (x l : List Int) (hx : Bin x) (k : Nat) (hk : k < (x.length + 7) / 8) : (bytesOf (flipX x l)).getD k 0 = bits .xor .u8 ((bytesOf x).getD k 0) ((bytesOf (flipX (List.replicate x.length 0) l)).getD k 0) := by
  have hb0 := flipX_bin hx l
  have hb1 := flipX_bin (zeros_bin x.length) l
  have hl0 := flipX_len x l
  have hl1 : (flipX (List.replicate x.length 0) l).length = x.length := by rw [flipX_len, List.length_replicate]
  have f1 := bitAt_flip x.length l
  have f0 : ∀ j, bitAt (flipX x l) j = if j < x.length ∧ l.contains (j : Int) = true then 1 - bitAt x j else bitAt x j := by
    intro j
    unfold bitAt
    rw [flipX_len]
    by_cases h : j < x.length
    · rw [if_pos h, if_pos h, flipX_get _ _ _ h]
      cases l.contains (j : Int) <;> simp [h]
    · rw [if_neg h, if_neg h, if_neg (by omega)]
  obtain ⟨X, hX⟩ : ∃ X, flipX (List.replicate x.length 0) l = X := ⟨_, rfl⟩
  obtain ⟨Y, hY⟩ : ∃ Y, flipX x l = Y := ⟨_, rfl⟩
  rw [hX] at hb1 hl1 f1 ⊢
  rw [hY] at hb0 hl0 f0 ⊢
  rw [bytesOf_get x k hk, bytesOf_get X k (by rw [hl1]; exact hk), bytesOf_get Y k (by rw [hl0]; exact hk)]
  obtain ⟨o1, o2⟩ := xor_byte _ _ (byt_bounds x hx k) (byt_bounds X hb1 k)
  refine byte_ext (byt_bounds Y hb0 k) o1 fun t ht => ?_
  rw [o2 t ht, byt_at x hx k t ht, byt_at X hb1 k t ht, byt_at Y hb0 k t ht, f0, f1]
  have := bitAt_bin hx (8 * k + t)
  split <;> omega

/-- A bit read. -/
theorem bytes_and (x : List Int) (hx : Bin x) (b : Nat) (hb : b < x.length) : bits .and .u8 ((bytesOf x).getD (b / 8) 0) (2 ^ (b % 8)) = if x.getD b 0 = 0 then 0 else 2 ^ (b % 8) := by
  rw [bytesOf_get x _ (by omega), and_byte _ (byt_bounds x hx _) _ (by omega), byt_at x hx _ _ (by omega)]
  have e : 8 * (b / 8) + b % 8 = b := by omega
  rw [e]
  unfold bitAt
  rw [if_pos hb]

/-- Bytes that are those of their bits: the last one ends in zeros. -/
theorem parse_iff (n : Nat) (b : List Int) (hn : 1 ≤ n) (hl : b.length = (n + 7) / 8) (hb : Bytes b) : bytesOf (bitsOf n b) = b ↔ b.getD (b.length - 1) 0 / 2 ^ (n - 8 * (b.length - 1)) = 0 := by
  have hbin : Bin (bitsOf n b) := bitsTo_bin n b n
  have hlen : (bitsOf n b).length = n := bitsTo_len n b n
  have hB : ∀ k, k < b.length → 0 ≤ b.getD k 0 ∧ b.getD k 0 ≤ 255 := fun k hk => hb _ (getD_mem hk)
  have hat : ∀ j, bitAt (bitsOf n b) j = if j < n then b.getD (j / 8) 0 / 2 ^ (j % 8) % 2 else 0 := by
    intro j
    unfold bitAt
    rw [hlen]
    by_cases h : j < n
    · rw [if_pos h, if_pos h]
      unfold bitsOf
      rw [bitsTo_get _ _ _ _ h, if_pos h]
    · rw [if_neg h, if_neg h]
  have hbit : ∀ k t, t < 8 → k < b.length → byt (bitsOf n b) (bitsOf n b).length k / 2 ^ t % 2 = if 8 * k + t < n then b.getD k 0 / 2 ^ t % 2 else 0 := by
    intro k t ht hk
    rw [byt_at _ hbin k t ht, hat]
    have e1 : (8 * k + t) / 8 = k := by omega
    have e2 : (8 * k + t) % 8 = t := by omega
    rw [e1, e2]
  obtain ⟨K, hK⟩ : ∃ K, b.length - 1 = K := ⟨_, rfl⟩
  obtain ⟨U, hU⟩ : ∃ U, n - 8 * K = U := ⟨_, rfl⟩
  have hKb : K < b.length := by omega
  have hU8 : U ≤ 8 := by omega
  rw [hK, hU]
  obtain ⟨a, ha⟩ : ∃ a : Nat, b.getD K 0 = a := ⟨(b.getD K 0).toNat, by have := hB K hKb; omega⟩
  have ha2 : a < 256 := by have := hB K hKb; omega
  have hd := high_dec ⟨a, ha2⟩ ⟨U, by omega⟩
  simp only at hd
  have hdi : ((a : Int) / 2 ^ U = 0) ↔ a / 2 ^ U = 0 := by
    rw [pow_int]
    have : (a : Int) / ((2 ^ U : Nat) : Int) = ((a / 2 ^ U : Nat) : Int) := rfl
    rw [this]
    omega
  rw [ha, hdi, ← hd]
  constructor
  · intro h t ht
    have e : byt (bitsOf n b) (bitsOf n b).length K = a := by
      rw [← bytesOf_get _ K (by rw [hlen]; omega), h, ha]
    have := hbit K t.val t.isLt hKb
    rw [e, if_neg (by omega), div_mod_nat] at this
    omega
  · intro h
    refine ext_getD (by rw [bytesOf_len, hlen, hl]) fun k hk => ?_
    rw [bytesOf_len, hlen] at hk
    rw [bytesOf_get _ k (by rw [hlen]; exact hk)]
    refine byte_ext (byt_bounds _ hbin k) (hB k (by omega)) fun t ht => ?_
    rw [hbit k t ht (by omega)]
    by_cases hlt : 8 * k + t < n
    · rw [if_pos hlt]
    · rw [if_neg hlt]
      have : k = K := by omega
      subst this
      rw [ha, div_mod_nat, h ⟨t, ht⟩ (by simp only; omega)]
      rfl

end Go.Proofs.Ytallblnkgmioeaa.st
