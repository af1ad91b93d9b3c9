/- Bytes of one length, in order: plain facts. -/
import Derived.Test.YtmchjnmmeankgaaPar
namespace Go.Proofs.Ytmchjnmmeankgaa.st
open Go.ChangeShapes Go.WideShapes Go.ChangeAt Go.RowKit Go.Proofs.Ytmchjnmmeankgaa.hp Go.Proofs.Ytmchjnmmeankgaa.dg
set_option linter.unusedVariables false

theorem dec_acc (l : List Int) (acc : Int) : dec acc l = acc * 2 ^ (8 * l.length) + dec 0 l := by
  induction l generalizing acc with
  | nil => simp [dec]
  | cons d l ih =>
    have h1 := ih (acc * 256 + d)
    have h2 := ih (0 * 256 + d)
    simp only [dec, List.foldl_cons, List.length_cons] at h1 h2 ⊢
    rw [h1, h2, pow_succ]
    generalize (2 : Int) ^ (8 * l.length) = P
    rw [Int.add_mul, Int.mul_assoc, Int.mul_comm 256 P]
    simp
    omega

theorem dec_lt (l : List Int) (h : Bytes l) : 0 ≤ dec 0 l ∧ dec 0 l < 2 ^ (8 * l.length) := by
  have := dec_bound l h 0 0 (by omega) (by decide)
  simpa using this

/-- Is a text less? -/
def blt : List Int → List Int → Bool
  | _, [] => false
  | [], _ :: _ => true
  | a :: x, b :: y => decide (a < b) || (a == b && blt x y)

theorem blt_dec : ∀ (x y : List Int), Bytes x → Bytes y → x.length = y.length → blt x y = decide (dec 0 x < dec 0 y)
  | [], [], _, _, _ => by simp [blt, dec]
  | [], _ :: _, _, _, h => by simp at h
  | _ :: _, [], _, _, h => by simp at h
  | a :: x, b :: y, hx, hy, h => by
    have hx' : Bytes x := fun z hz => hx z (by simp [hz])
    have hy' : Bytes y := fun z hz => hy z (by simp [hz])
    have hl : x.length = y.length := by simpa using h
    have ih := blt_dec x y hx' hy' hl
    obtain ⟨x1, x2⟩ := dec_lt x hx'
    obtain ⟨y1, y2⟩ := dec_lt y hy'
    have e1 : dec 0 (a :: x) = a * 2 ^ (8 * x.length) + dec 0 x := by
      have := dec_acc x a
      simpa [dec] using this
    have e2 : dec 0 (b :: y) = b * 2 ^ (8 * x.length) + dec 0 y := by
      have := dec_acc y b
      rw [← hl] at this
      simpa [dec] using this
    rw [← hl] at y2
    rw [e1, e2]
    simp only [blt]
    rw [ih]
    have hp : (0 : Int) < 2 ^ (8 * x.length) := Int.pow_pos (by decide)
    generalize (2 : Int) ^ (8 * x.length) = P at *
    generalize dec 0 x = X at *
    generalize dec 0 y = Y at *
    by_cases h1 : a < b
    · have hm : (a + 1) * P ≤ b * P := Int.mul_le_mul_of_nonneg_right (by omega) (by omega)
      rw [Int.add_mul] at hm
      have : a * P + X < b * P + Y := by omega
      simp [h1, this]
    · by_cases h2 : a = b
      · subst h2
        simp
      · have hm : (b + 1) * P ≤ a * P := Int.mul_le_mul_of_nonneg_right (by omega) (by omega)
        rw [Int.add_mul] at hm
        have : ¬ a * P + X < b * P + Y := by omega
        simp [h1, h2, this]

theorem dec_inj : ∀ (x y : List Int), Bytes x → Bytes y → x.length = y.length → dec 0 x = dec 0 y → x = y
  | [], [], _, _, _, _ => rfl
  | [], _ :: _, _, _, h, _ => by simp at h
  | _ :: _, [], _, _, h, _ => by simp at h
  | a :: x, b :: y, hx, hy, h, he => by
    have hx' : Bytes x := fun z hz => hx z (by simp [hz])
    have hy' : Bytes y := fun z hz => hy z (by simp [hz])
    have hl : x.length = y.length := by simpa using h
    obtain ⟨x1, x2⟩ := dec_lt x hx'
    obtain ⟨y1, y2⟩ := dec_lt y hy'
    have e1 : dec 0 (a :: x) = a * 2 ^ (8 * x.length) + dec 0 x := by
      have := dec_acc x a
      simpa [dec] using this
    have e2 : dec 0 (b :: y) = b * 2 ^ (8 * x.length) + dec 0 y := by
      have := dec_acc y b
      rw [← hl] at this
      simpa [dec] using this
    rw [← hl] at y2
    rw [e1, e2] at he
    have ih := dec_inj x y hx' hy' hl
    have hp : (0 : Int) < 2 ^ (8 * x.length) := Int.pow_pos (by decide)
    generalize (2 : Int) ^ (8 * x.length) = P at *
    generalize dec 0 x = X at *
    generalize dec 0 y = Y at *
    have hab : a = b := by
      by_cases h1 : a < b
      · have hm : (a + 1) * P ≤ b * P := Int.mul_le_mul_of_nonneg_right (by omega) (by omega)
        rw [Int.add_mul] at hm
        omega
      · by_cases h2 : b < a
        · have hm : (b + 1) * P ≤ a * P := Int.mul_le_mul_of_nonneg_right (by omega) (by omega)
          rw [Int.add_mul] at hm
          omega
        · omega
    subst hab
    rw [ih (by omega)]

/-- Bytes as a string's letters. -/
def u8s (l : List Int) : List UInt8 := l.map fun n => UInt8.ofNat n.toNat

theorem loop_toList (b : ByteArray) (n : Nat) : ∀ (i : Nat) (r : List UInt8), b.size - i = n → i ≤ b.size → ByteArray.toList.loop b i r = r.reverse ++ b.data.toList.drop i := by
  induction n with
  | zero =>
    intro i r hn hi
    rw [ByteArray.toList.loop, if_neg (by omega), List.drop_of_length_le (by simp; omega)]
    simp
  | succ n ih =>
    intro i r hn hi
    have h : i < b.size := by omega
    rw [ByteArray.toList.loop, if_pos h, ih (i + 1) _ (by omega) (by omega)]
    have h' : i < b.data.toList.length := by simpa using h
    rw [List.drop_eq_getElem_cons h']
    simp [ByteArray.get!]
    congr 1
    show b.data[i]! = _
    rw [getElem!_pos b.data i (by simpa using h)]

theorem str_toList (l : List Int) : (strOfNums l).toList = u8s l := by
  show ByteArray.toList.loop (strOfNums l) 0 [] = _
  rw [loop_toList _ _ 0 [] rfl (Nat.zero_le _)]
  simp [strOfNums_data, u8s]

theorem u8_lt (a b : Int) (ha : 0 ≤ a ∧ a ≤ 255) (hb : 0 ≤ b ∧ b ≤ 255) : (UInt8.ofNat a.toNat < UInt8.ofNat b.toNat) ↔ a < b := by
  rw [UInt8.lt_iff_toNat_lt, UInt8.toNat_ofNat', UInt8.toNat_ofNat', Nat.mod_eq_of_lt (by omega), Nat.mod_eq_of_lt (by omega)]
  omega

theorem u8_eq (a b : Int) (ha : 0 ≤ a ∧ a ≤ 255) (hb : 0 ≤ b ∧ b ≤ 255) : (UInt8.ofNat a.toNat = UInt8.ofNat b.toNat) ↔ a = b := by
  rw [← UInt8.toNat_inj, UInt8.toNat_ofNat', UInt8.toNat_ofNat', Nat.mod_eq_of_lt (by omega), Nat.mod_eq_of_lt (by omega)]
  omega

theorem less_blt : ∀ (x y : List Int), Bytes x → Bytes y → Op.bytesLess (u8s x) (u8s y) = blt x y
  | _, [], _, _ => by simp [u8s, Op.bytesLess, blt]
  | [], _ :: _, _, _ => by simp [u8s, Op.bytesLess, blt]
  | a :: x, b :: y, hx, hy => by
    have ih := less_blt x y (fun z hz => hx z (by simp [hz])) (fun z hz => hy z (by simp [hz]))
    have ha := hx a (by simp)
    have hb := hy b (by simp)
    simp only [u8s, List.map_cons, Op.bytesLess, blt] at ih ⊢
    rw [ih]
    congr 1
    · exact decide_eq_decide.2 (u8_lt a b ha hb)
    · congr 1
      rw [Bool.eq_iff_iff]
      simp only [beq_iff_eq]
      exact u8_eq a b ha hb

theorem u8s_inj : ∀ (x y : List Int), Bytes x → Bytes y → (u8s x = u8s y ↔ x = y)
  | [], [], _, _ => by simp
  | [], _ :: _, _, _ => by simp [u8s]
  | _ :: _, [], _, _ => by simp [u8s]
  | a :: x, b :: y, hx, hy => by
    have ih := u8s_inj x y (fun z hz => hx z (by simp [hz])) (fun z hz => hy z (by simp [hz]))
    have := u8_eq a b (hx a (by simp)) (hy b (by simp))
    simp only [u8s, List.map_cons, List.cons.injEq] at ih ⊢
    rw [ih, this]

/-- A nonce that may be, as one number. -/
theorem dec_nbs (g c : Int) (h : may g c = true) : dec 0 (nbs g c) = g * 281474976710656 + c := by
  obtain ⟨h0, h1, h2, h3⟩ := may_of h
  unfold nbs
  rw [if_pos h]
  have e : dec 0 (enc g 6 ++ enc c 6) = dec (dec 0 (enc g 6)) (enc c 6) := by simp [dec]
  rw [e, dec_enc, dec_enc]
  have p : (2 : Int) ^ (8 * 6) = 281474976710656 := by decide
  rw [p, Int.emod_eq_of_lt (by omega) (by omega), Int.emod_eq_of_lt (by omega) (by omega)]
  omega

theorem str_lt (g c g' c' : Int) (h : may g c = true) (h' : may g' c' = true) : Op.bytesLess (strOfNums (nbs g c)).toList (strOfNums (nbs g' c')).toList = decide (g < g' ∨ g = g' ∧ c < c') := by
  rw [str_toList, str_toList, less_blt _ _ (nbs_bytes _ _) (nbs_bytes _ _), blt_dec _ _ (nbs_bytes _ _) (nbs_bytes _ _) (by rw [nbs_length, nbs_length]), dec_nbs g c h, dec_nbs g' c' h']
  obtain ⟨h0, h1, h2, h3⟩ := may_of h
  obtain ⟨k0, k1, k2, k3⟩ := may_of h'
  apply decide_eq_decide.2
  omega

theorem str_eq (g c g' c' : Int) (h : may g c = true) (h' : may g' c' = true) : ((strOfNums (nbs g c)).toList == (strOfNums (nbs g' c')).toList) = decide (g = g' ∧ c = c') := by
  rw [str_toList, str_toList, Bool.eq_iff_iff]
  simp only [beq_iff_eq, decide_eq_true_eq]
  rw [u8s_inj _ _ (nbs_bytes _ _) (nbs_bytes _ _)]
  constructor
  · intro e
    have := congrArg (dec 0) e
    rw [dec_nbs g c h, dec_nbs g' c' h'] at this
    obtain ⟨h0, h1, h2, h3⟩ := may_of h
    obtain ⟨k0, k1, k2, k3⟩ := may_of h'
    omega
  · rintro ⟨rfl, rfl⟩
    rfl

theorem most6 : most 6 = 281474976710655 := by decide

/-- What bytes tell of a nonce that may be. -/
theorem pg_nbs (g c : Int) (h : may g c = true) : pg (nbs g c) = g ∧ pc (nbs g c) = c := by
  obtain ⟨h0, h1, h2, h3⟩ := may_of h
  unfold pg pc nbs
  rw [if_pos h, List.take_append_of_le_length (by rw [enc_length]; omega), List.take_of_length_le (by rw [enc_length]; omega), List.drop_append_of_le_length (by rw [enc_length]; omega), List.drop_of_length_le (by rw [enc_length]; omega), List.nil_append]
  have p : (2 : Int) ^ (8 * 6) = 281474976710656 := by decide
  exact ⟨told_enc g 6 (by omega) (by omega), told_enc c 6 (by omega) (by omega)⟩

end Go.Proofs.Ytmchjnmmeankgaa.st
