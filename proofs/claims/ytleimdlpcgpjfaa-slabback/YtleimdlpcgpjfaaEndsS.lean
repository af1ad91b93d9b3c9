/- What SlabEnds asks of writers and readers, as plain facts. -/
import Derived.Test.YtleimdlpcgpjfaaArgs
namespace Go.Proofs.Ytleimdlpcgpjfaa.st
open Go.ChangeShapes Go.WideShapes Go.ChangeAt Go.RowKit Go.Proofs.Ytleimdlpcgpjfaa.hp Go.Proofs.Ytleimdlpcgpjfaa.dg
set_option linter.unusedVariables false

theorem isw_of (k : Nat) (h1 : 1 ≤ k) (h2 : k ≤ 7) : isw k = true := decide_eq_true (by omega)

theorem num_back (n : Int) (k : Nat) (rest : List Int) (h1 : 1 ≤ k) (h2 : k ≤ 7) (h3 : -1 ≤ n) (h4 : n < most k) : tval (enc n k ++ rest, 0) k = n ∧ tak (enc n k ++ rest, 0) k (isw k) = (rest, 0) := by
  have hl := enc_length n k
  have ht : tak (enc n k ++ rest, 0) k (isw k) = (rest, 0) := by
    unfold tak
    rw [isw_of k h1 h2]
    rw [if_neg (by simp), if_neg (by simp), if_neg (by simp [hl]; omega)]
    simp only [Int.toNat_natCast]
    rw [List.drop_append_of_le_length (by omega), List.drop_of_length_le (by omega)]
    rfl
  refine ⟨?_, ht⟩
  unfold tval
  rw [ht, if_pos rfl]
  simp only [Int.toNat_natCast]
  rw [List.take_append_of_le_length (by omega), List.take_of_length_le (by omega)]
  exact told_enc n k h3 (by unfold most at h4; omega)

theorem num_none (k : Nat) (h1 : 1 ≤ k) (h2 : k ≤ 7) : tval ([], 0) k = 0 ∧ tak ([], 0) k (isw k) = ([], 3) := by
  have ht : tak ([], 0) k (isw k) = ([], 3) := by
    unfold tak
    rw [isw_of k h1 h2]
    rw [if_neg (by simp), if_neg (by simp), if_pos (by simp; omega)]
  refine ⟨?_, ht⟩
  unfold tval
  rw [ht, if_neg (by simp)]

theorem brk_ok (k : Nat) (h1 : 1 ≤ k) (h2 : k ≤ 7) (s : WS) : brk k s = s := by
  unfold brk
  rw [decide_eq_true (by omega)]
  simp

theorem stp_ok (k : Nat) (n : Int) (bs : List Int) (h1 : 1 ≤ k) (h2 : k ≤ 7) (h3 : -1 ≤ n) (h4 : n < most k) : stp k (bs, false) n = (bs ++ enc n k, false) := by
  unfold stp
  rw [okN_of k n h1 h2, decide_eq_true ⟨h3, h4⟩]
  simp

theorem stp_bad (k : Nat) (n : Int) (bs : List Int) (h1 : 1 ≤ k) (h2 : k ≤ 7) (h : n < -1 ∨ most k ≤ n) : stp k (bs, false) n = (bs, true) := by
  unfold stp
  rw [okN_of k n h1 h2, decide_eq_false (by omega)]
  simp

theorem nums_one (k : Nat) (n : Int) (s : WS) (h1 : 1 ≤ k) (h2 : k ≤ 7) : nums k s [n] = stp k s n := by
  unfold nums
  rw [brk_ok k h1 h2]
  rfl

theorem most_ge (k : Nat) (h1 : 1 ≤ k) (h2 : k ≤ 7) : 255 ≤ most k ∧ most k ≤ 72057594037927935 := by
  have h3 := pow_le k h2
  have h4 := pow_pos (k - 1)
  have h5 := pow_succ (k - 1)
  rw [show k - 1 + 1 = k by omega] at h5
  unfold most
  omega

/-- What the first writer of SlabEnds holds. -/
theorem ends_w (k : Nat) (h1 : 1 ≤ k) (h2 : k ≤ 7) : nums k ([], false) [most k - 1, -1, 0] = (enc (most k - 1) k ++ (enc (-1) k ++ (enc 0 k ++ [])), false) := by
  have hm := most_ge k h1 h2
  unfold nums
  rw [brk_ok k h1 h2]
  simp only [List.foldl_cons, List.foldl_nil]
  rw [stp_ok k _ _ h1 h2 (by omega) (by omega), stp_ok k _ _ h1 h2 (by omega) (by omega), stp_ok k _ _ h1 h2 (by omega) (by omega)]
  simp

theorem enc_bytes (n : Int) (k : Nat) : Bytes (enc n k) := by
  induction k with
  | zero => intro x hx; simp [enc] at hx
  | succ k ih =>
    intro x hx
    simp only [enc, List.mem_cons] at hx
    rcases hx with rfl | hx
    · exact digit_byte n k
    · exact ih x hx

theorem Bytes.append {l m : List Int} (hl : Bytes l) (hm : Bytes m) : Bytes (l ++ m) := by
  intro x hx
  rcases List.mem_append.1 hx with h | h
  · exact hl x h
  · exact hm x h

theorem bytes_nil : Bytes [] := fun x hx => by simp at hx

/-- Three new writers. -/
theorem wri_three (w : World) : Wri (((w.alloc (.cells #[.slice none 0 0, .bool false] 28)).alloc (.cells #[.slice none 0 0, .bool false] 28)).alloc (.cells #[.slice none 0 0, .bool false] 28)) w.heap.size (fun k => k = w.heap.size) [] false ∧
    Wri (((w.alloc (.cells #[.slice none 0 0, .bool false] 28)).alloc (.cells #[.slice none 0 0, .bool false] 28)).alloc (.cells #[.slice none 0 0, .bool false] 28)) (w.heap.size + 1) (fun k => k = w.heap.size + 1) [] false ∧
    Wri (((w.alloc (.cells #[.slice none 0 0, .bool false] 28)).alloc (.cells #[.slice none 0 0, .bool false] 28)).alloc (.cells #[.slice none 0 0, .bool false] 28)) (w.heap.size + 2) (fun k => k = w.heap.size + 2) [] false ∧
    Chg no w (((w.alloc (.cells #[.slice none 0 0, .bool false] 28)).alloc (.cells #[.slice none 0 0, .bool false] 28)).alloc (.cells #[.slice none 0 0, .bool false] 28)) ∧
    (((w.alloc (.cells #[.slice none 0 0, .bool false] 28)).alloc (.cells #[.slice none 0 0, .bool false] 28)).alloc (.cells #[.slice none 0 0, .bool false] 28)).heap.size = w.heap.size + 3 := by
  have h1 := wri_new w
  have h2 := wri_new (w.alloc (.cells #[.slice none 0 0, .bool false] 28))
  have h3 := wri_new ((w.alloc (.cells #[.slice none 0 0, .bool false] 28)).alloc (.cells #[.slice none 0 0, .bool false] 28))
  have z1 : (w.alloc (.cells #[.slice none 0 0, .bool false] 28)).heap.size = w.heap.size + 1 := by simp
  have z2 : ((w.alloc (.cells #[.slice none 0 0, .bool false] 28)).alloc (.cells #[.slice none 0 0, .bool false] 28)).heap.size = w.heap.size + 2 := by simp
  rw [z1] at h2
  rw [z2] at h3
  exact ⟨h1.same (((Chg.refl no _).alloc _).alloc _), h2.same ((Chg.refl no _).alloc _), h3, (((Chg.refl no _).alloc _).alloc _).alloc _, by simp⟩

end Go.Proofs.Ytleimdlpcgpjfaa.st
