/- Blocks as plain lists: which may be, their text, what a text tells. -/
import Derived.Test.YtlcbfdbnjohicaaLnw
namespace Go.Proofs.Ytlcbfdbnjohicaa.st
open Go.ChangeShapes Go.WideShapes Go.ChangeAt Go.RowKit Go.Proofs.Ytlcbfdbnjohicaa.hp Go.Proofs.Ytlcbfdbnjohicaa.dg
set_option linter.unusedVariables false

/-- A block: its id, its bytes. -/
abbrev Bk := Int × List Int

def okB (b : Bk) : Prop := 0 ≤ b.1 ∧ b.1 < 64 ∧ b.2.length = 37
instance (b : Bk) : Decidable (okB b) := by unfold okB; infer_instance

def mayP (l : List Bk) : Prop := (∀ b ∈ l, okB b) ∧ (l.map (·.1)).Nodup
instance (l : List Bk) : Decidable (mayP l) := by unfold mayP; infer_instance

def mayL (l : List Bk) : Bool := decide (mayP l)

theorem mayP_nil : mayP [] := ⟨by simp, by simp⟩

theorem mayP_append {l m : List Bk} (h : mayP (l ++ m)) : mayP l := by
  refine ⟨fun b hb => h.1 b (by simp [hb]), ?_⟩
  have := h.2
  rw [List.map_append] at this
  exact (List.nodup_append.1 this).1

theorem mayP_take {l : List Bk} (h : mayP l) (j : Nat) : mayP (l.take j) := by
  rw [← List.take_append_drop j l] at h
  exact mayP_append h

theorem mayP_snoc {l : List Bk} {x : Bk} : mayP (l ++ [x]) ↔ mayP l ∧ okB x ∧ x.1 ∉ l.map (·.1) := by
  constructor
  · intro h
    refine ⟨mayP_append h, h.1 x (by simp), fun hx => ?_⟩
    have := h.2
    rw [List.map_append] at this
    exact (List.nodup_append.1 this).2.2 x.1 hx x.1 (by simp) rfl
  · rintro ⟨h1, h2, h3⟩
    refine ⟨fun b hb => ?_, ?_⟩
    · rcases List.mem_append.1 hb with hb | hb
      · exact h1.1 b hb
      · simp at hb
        subst hb
        exact h2
    · rw [List.map_append]
      refine List.nodup_append.2 ⟨h1.2, by simp, ?_⟩
      intro a ha b hb e
      simp at hb
      subst hb
      subst e
      exact h3 ha

theorem take_snoc {α : Type} (l : List α) (j : Nat) (d : α) (hj : j < l.length) : l.take (j + 1) = l.take j ++ [l.getD j d] := by
  rw [List.take_succ_eq_append_getElem hj]
  simp [List.getD_eq_getElem?_getD, List.getElem?_eq_getElem hj]

def dBk : Bk := (0, [])

theorem mayP_step {l : List Bk} {j : Nat} (hj : j < l.length) : mayP (l.take (j + 1)) ↔ mayP (l.take j) ∧ okB (l.getD j dBk) ∧ (l.getD j dBk).1 ∉ (l.take j).map (·.1) := by
  rw [take_snoc l j dBk hj]
  exact mayP_snoc

theorem mayL_false {l : List Bk} {j : Nat} (h : ¬ mayP (l.take (j + 1))) : mayL l = false := decide_eq_false fun k => h (mayP_take k _)

/-! ### The text -/

def bodyB (l : List Bk) : List Int := l.flatMap fun b => (b.1 + 1) :: b.2

theorem body_nil : bodyB [] = [] := rfl
theorem body_cons (b : Bk) (l : List Bk) : bodyB (b :: l) = (b.1 + 1) :: (b.2 ++ bodyB l) := by simp [bodyB]
theorem body_snoc (l : List Bk) (b : Bk) : bodyB (l ++ [b]) = bodyB l ++ ((b.1 + 1) :: b.2) := by simp [bodyB]

theorem body_length {l : List Bk} (h : ∀ b ∈ l, okB b) : (bodyB l).length = 38 * l.length := by
  induction l with
  | nil => rfl
  | cons b l ih =>
    have h1 := ih (fun c hc => h c (by simp [hc]))
    have h2 := (h b (by simp)).2.2
    rw [body_cons]
    simp only [List.length_cons, List.length_append]
    omega

theorem body_step (l : List Bk) (j : Nat) (hj : j < l.length) : bodyB (l.take (j + 1)) = bodyB (l.take j) ++ (((l.getD j dBk).1 + 1) :: (l.getD j dBk).2) := by
  rw [take_snoc l j dBk hj, body_snoc]

def lenL (z : Int) : Int := if 1 ≤ z ∧ z ≤ 4 then z * 38 else 0

/-- Encode. -/
def encL (z : Int) (l : List Bk) : List Int × Int := if 1 ≤ z ∧ z ≤ 4 ∧ mayP l then (if (l.length : Int) ≤ z then (fill (bodyB l) (38 * z.toNat), 0) else ([], 4)) else ([], 1)

theorem enc_ok {z : Int} {l : List Bk} (h : (encL z l).2 = 0) : 1 ≤ z ∧ z ≤ 4 ∧ mayP l ∧ (l.length : Int) ≤ z ∧ encL z l = (fill (bodyB l) (38 * z.toNat), 0) := by
  unfold encL at h ⊢
  by_cases h1 : 1 ≤ z ∧ z ≤ 4 ∧ mayP l
  · rw [if_pos h1] at h ⊢
    by_cases h2 : (l.length : Int) ≤ z
    · rw [if_pos h2]
      exact ⟨h1.1, h1.2.1, h1.2.2, h2, rfl⟩
    · rw [if_neg h2] at h
      simp at h
  · rw [if_neg h1] at h
    simp at h

theorem enc_of {z : Int} {l : List Bk} (h1 : 1 ≤ z) (h2 : z ≤ 4) (h3 : mayP l) (h4 : (l.length : Int) ≤ z) : encL z l = (fill (bodyB l) (38 * z.toNat), 0) := by
  unfold encL
  rw [if_pos ⟨h1, h2, h3⟩, if_pos h4]

theorem enc_bad {z : Int} {l : List Bk} (h : (encL z l).2 ≠ 0) : (encL z l).1 = [] := by
  unfold encL at h ⊢
  split
  · split
    · rw [if_pos ‹_›, if_pos ‹_›] at h
      simp at h
    · rfl
  · rfl

theorem fill_len38 {z : Int} {l : List Bk} (h1 : 1 ≤ z) (h3 : mayP l) (h4 : (l.length : Int) ≤ z) : (fill (bodyB l) (38 * z.toNat)).length = 38 * z.toNat := fill_length _ _ (by rw [body_length h3.1]; omega)

/-! ### What a text tells -/

/-- The id that a first byte tells. -/
def pid (d : Int) : Int := (if d = 255 then -1 else d) - 1

/-- The program's reading: the blocks, what is left. -/
def prs : Nat → List Int → List Bk × List Int
  | 0, b => ([], b)
  | n + 1, b => if b.headD 0 = 0 then ([], b.drop 1) else ((pid (b.headD 0), (b.drop 1).take 37) :: (prs n (b.drop 38)).1, (prs n (b.drop 38)).2)

/-- The document's reading. -/
def rprs : Nat → List Int → List Bk
  | 0, _ => []
  | n + 1, b => if b.length < 38 ∨ b.headD 0 = 0 then [] else (b.headD 0 - 1, (b.drop 1).take 37) :: rprs n (b.drop 38)

def decL (z : Int) (b : List Int) : List Bk × Int :=
  if 1 ≤ z ∧ z ≤ 4 then (if b.length = 38 * z.toNat ∧ zeros (prs z.toNat b).2 = true ∧ mayP (prs z.toNat b).1 then ((prs z.toNat b).1, 0) else ([], 2)) else ([], 1)

def rdecL (z : Int) (b : List Int) : List Bk × Int :=
  if 1 ≤ z ∧ z ≤ 4 then (if (encL z (rprs b.length b)).2 = 0 ∧ (encL z (rprs b.length b)).1 = b then (rprs b.length b, 0) else ([], 2)) else ([], 1)

theorem zeros_rep (n : Nat) : zeros (List.replicate n 0) = true := by
  unfold zeros
  simp

theorem zeros_eq {l : List Int} (h : zeros l = true) : l = List.replicate l.length 0 := by
  unfold zeros at h
  rw [List.all_eq_true] at h
  exact List.eq_replicate_iff.2 ⟨rfl, fun b hb => by simpa using h b hb⟩

theorem split38 (b : List Int) (h : 38 ≤ b.length) : b = b.headD 0 :: ((b.drop 1).take 37 ++ b.drop 38) := by
  cases b with
  | nil => simp at h
  | cons d r =>
    have := List.take_append_drop 37 r
    simp [this]

theorem front38 (b : Bk) (t : List Int) (h : okB b) : ((b.1 + 1) :: (b.2 ++ t)).headD 0 = b.1 + 1 ∧ (((b.1 + 1) :: (b.2 ++ t)).drop 1).take 37 = b.2 ∧ ((b.1 + 1) :: (b.2 ++ t)).drop 38 = t := by
  have hl := h.2.2
  refine ⟨rfl, ?_, ?_⟩
  · rw [List.drop_succ_cons, List.drop_zero, List.take_append_of_le_length (by omega), List.take_of_length_le (by omega)]
  · rw [List.drop_succ_cons, List.drop_append_of_le_length (by omega), List.drop_of_length_le (by omega)]
    rfl

theorem pid_of (b : Bk) (h : okB b) : pid (b.1 + 1) = b.1 := by
  unfold pid
  have := h.1
  have := h.2.1
  rw [if_neg (by omega)]
  omega

theorem prs_body (n : Nat) (l : List Bk) (h : ∀ b ∈ l, okB b) (hl : l.length ≤ n) : (prs n (bodyB l ++ List.replicate (38 * (n - l.length)) 0)).1 = l ∧ zeros (prs n (bodyB l ++ List.replicate (38 * (n - l.length)) 0)).2 = true := by
  induction n generalizing l with
  | zero =>
    obtain rfl : l = [] := List.eq_nil_of_length_eq_zero (by omega)
    exact ⟨rfl, rfl⟩
  | succ n ih =>
    cases l with
    | nil =>
      have e : bodyB [] ++ List.replicate (38 * (n + 1 - ([] : List Bk).length)) 0 = 0 :: List.replicate (38 * n + 37) 0 := by
        rw [body_nil, List.nil_append, ← List.replicate_succ]
        congr 1
      rw [e]
      simp only [prs, List.headD_cons, if_true]
      exact ⟨trivial, by simpa using zeros_rep (38 * n + 37)⟩
    | cons b l =>
      have hb := h b (by simp)
      have e : bodyB (b :: l) ++ List.replicate (38 * (n + 1 - (b :: l).length)) 0 = (b.1 + 1) :: (b.2 ++ (bodyB l ++ List.replicate (38 * (n - l.length)) 0)) := by
        rw [body_cons]
        simp
      obtain ⟨e1, e2, e3⟩ := front38 b (bodyB l ++ List.replicate (38 * (n - l.length)) 0) hb
      obtain ⟨i1, i2⟩ := ih l (fun c hc => h c (by simp [hc])) (by simpa using hl)
      have hne : ¬ (b.1 + 1 = 0) := by have := hb.1; omega
      rw [e]
      unfold prs
      rw [e1, e2, e3, if_neg hne, pid_of b hb]
      exact ⟨by rw [i1], i2⟩

theorem prs_back (n : Nat) (b : List Int) (hb : Bytes b) (hl : b.length = 38 * n) (hz : zeros (prs n b).2 = true) (hm : ∀ x ∈ (prs n b).1, okB x) : (prs n b).1.length ≤ n ∧ b = bodyB (prs n b).1 ++ List.replicate (38 * (n - (prs n b).1.length)) 0 := by
  induction n generalizing b with
  | zero =>
    have : b = [] := List.eq_nil_of_length_eq_zero (by omega)
    subst this
    exact ⟨by simp [prs], by simp [prs, bodyB]⟩
  | succ n ih =>
    unfold prs at hz hm ⊢
    by_cases h0 : b.headD 0 = 0
    · rw [if_pos h0] at hz hm ⊢
      refine ⟨by simp, ?_⟩
      have h1 := zeros_eq hz
      have h2 : b = b.headD 0 :: b.drop 1 := by
        cases b with
        | nil => simp at hl
        | cons d r => simp
      simp only [List.length_drop] at h1
      rw [h0, h1, ← List.replicate_succ] at h2
      simp only [body_nil, List.nil_append, List.length_nil, Nat.sub_zero]
      rw [h2]
      congr 1
      omega
    · rw [if_neg h0] at hz hm ⊢
      have hs := split38 b (by omega)
      obtain ⟨i1, i2⟩ := ih (b.drop 38) (hb.drop 38) (by simp; omega) hz (fun x hx => hm x (by simp [hx]))
      have hx := hm (pid (b.headD 0), (b.drop 1).take 37) (by simp)
      have hd : pid (b.headD 0) + 1 = b.headD 0 := by
        have := hx.1
        unfold pid at this ⊢
        simp only at this
        split at this
        · omega
        · rename_i hne
          rw [if_neg hne]
          omega
      refine ⟨by simp; omega, ?_⟩
      rw [body_cons]
      simp only [List.length_cons, Nat.add_sub_add_right]
      rw [hd, List.cons_append, List.append_assoc, ← i2]
      exact hs

theorem rprs_body (N : Nat) (l : List Bk) (m : Nat) (h : ∀ b ∈ l, okB b) (hl : l.length ≤ N) : rprs N (bodyB l ++ List.replicate m 0) = l := by
  induction N generalizing l with
  | zero =>
    obtain rfl : l = [] := List.eq_nil_of_length_eq_zero (by omega)
    rfl
  | succ N ih =>
    cases l with
    | nil =>
      rw [body_nil, List.nil_append]
      unfold rprs
      rw [if_pos]
      cases m with
      | zero => exact .inl (by simp)
      | succ m => exact .inr (by simp [List.replicate_succ])
    | cons b l =>
      have hb := h b (by simp)
      have e : bodyB (b :: l) ++ List.replicate m 0 = (b.1 + 1) :: (b.2 ++ (bodyB l ++ List.replicate m 0)) := by
        rw [body_cons]
        simp
      obtain ⟨e1, e2, e3⟩ := front38 b (bodyB l ++ List.replicate m 0) hb
      have hne : ¬ (b.1 + 1 = 0) := by have := hb.1; omega
      rw [e]
      unfold rprs
      rw [e1, e2, e3, if_neg, ih l (fun c hc => h c (by simp [hc])) (by simpa using hl)]
      · have : b.1 + 1 - 1 = b.1 := by omega
        rw [this]
      · rintro (h1 | h1)
        · have := hb.2.2
          simp at h1
          omega
        · exact hne h1

theorem fill_eq {z : Int} {l : List Bk} (h3 : mayP l) : fill (bodyB l) (38 * z.toNat) = bodyB l ++ List.replicate (38 * (z.toNat - l.length)) 0 := by
  unfold fill
  rw [body_length h3.1, Nat.mul_sub]

/-- What was written is read. -/
theorem dec_enc9 {z : Int} {l : List Bk} (h : (encL z l).2 = 0) : decL z (encL z l).1 = (l, 0) := by
  obtain ⟨h1, h2, h3, h4, h5⟩ := enc_ok h
  have hl : l.length ≤ z.toNat := by omega
  rw [h5]
  obtain ⟨i1, i2⟩ := prs_body z.toNat l h3.1 hl
  rw [← fill_eq (z := z) h3] at i1 i2
  unfold decL
  simp only
  rw [if_pos ⟨h1, h2⟩, i1, if_pos ⟨fill_len38 h1 h3 h4, i2, h3⟩]

/-- What was read is written. -/
theorem enc_dec9 {z : Int} {b : List Int} (hb : Bytes b) (h : (decL z b).2 = 0) : encL z (decL z b).1 = (b, 0) ∧ mayP (decL z b).1 ∧ ((decL z b).1.length : Int) ≤ z := by
  unfold decL at h ⊢
  by_cases h1 : 1 ≤ z ∧ z ≤ 4
  · rw [if_pos h1] at h ⊢
    by_cases h2 : b.length = 38 * z.toNat ∧ zeros (prs z.toNat b).2 = true ∧ mayP (prs z.toNat b).1
    · rw [if_pos h2] at h ⊢
      obtain ⟨i1, i2⟩ := prs_back z.toNat b hb h2.1 h2.2.1 h2.2.2.1
      have hl : ((prs z.toNat b).1.length : Int) ≤ z := by omega
      refine ⟨?_, h2.2.2, hl⟩
      rw [enc_of h1.1 h1.2 h2.2.2 hl, fill_eq h2.2.2, ← i2]
    · rw [if_neg h2] at h
      simp at h
  · rw [if_neg h1] at h
    simp at h

theorem dec_bad {z : Int} {b : List Int} (h : (decL z b).2 ≠ 0) : (decL z b).1 = [] := by
  unfold decL at h ⊢
  split
  · split
    · rw [if_pos ‹_›, if_pos ‹_›] at h
      simp at h
    · rfl
  · rfl

/-- Both readings are one. -/
theorem dec_same {z : Int} {b : List Int} (hb : Bytes b) : decL z b = rdecL z b := by
  by_cases h1 : 1 ≤ z ∧ z ≤ 4
  · by_cases h2 : (decL z b).2 = 0
    · obtain ⟨e1, e2, e3⟩ := enc_dec9 hb h2
      obtain ⟨l, hl⟩ : ∃ l, (decL z b).1 = l := ⟨_, rfl⟩
      have hd : decL z b = (l, 0) := Prod.ext hl h2
      rw [hl] at e1 e2 e3
      rw [hd]
      have e4 := enc_of h1.1 h1.2 e2 e3
      rw [e1] at e4
      have e5 : b = bodyB l ++ List.replicate (38 * (z.toNat - l.length)) 0 := by
        rw [← fill_eq e2]
        exact congrArg Prod.fst e4
      have e6 : rprs b.length b = l := by
        have hlen : l.length ≤ b.length := by
          have := congrArg List.length e5
          rw [List.length_append, body_length e2.1] at this
          omega
        have := rprs_body b.length l (38 * (z.toNat - l.length)) e2.1 hlen
        rw [← e5] at this
        exact this
      unfold rdecL
      rw [if_pos h1, e6, e1, if_pos ⟨rfl, rfl⟩]
    · have h3 : ¬ ((encL z (rprs b.length b)).2 = 0 ∧ (encL z (rprs b.length b)).1 = b) := by
        rintro ⟨k1, k2⟩
        have := dec_enc9 k1
        rw [k2] at this
        exact h2 (by rw [this])
      unfold rdecL
      rw [if_pos h1, if_neg h3]
      unfold decL at h2 ⊢
      rw [if_pos h1] at h2 ⊢
      by_cases h4 : b.length = 38 * z.toNat ∧ zeros (prs z.toNat b).2 = true ∧ mayP (prs z.toNat b).1
      · rw [if_pos h4] at h2
        exact (h2 rfl).elim
      · rw [if_neg h4]
  · unfold decL rdecL
    rw [if_neg h1, if_neg h1]

theorem enc_inj {z : Int} {l m : List Bk} (h : (encL z l).2 = 0) (k : (encL z m).2 = 0) : (encL z l).1 = (encL z m).1 ↔ l = m := by
  constructor
  · intro e
    have h1 := dec_enc9 h
    rw [e, dec_enc9 k] at h1
    exact (congrArg Prod.fst h1).symm
  · rintro rfl
    rfl

end Go.Proofs.Ytlcbfdbnjohicaa.st
