/- Lists of numbers in order: put in behind those that are not greater; sorted; plain lists. -/
import Derived.WalkKit
namespace Go.Proofs.Ytkaohjlnlgennaa.ev
set_option linter.unusedVariables false
set_option linter.unusedSimpArgs false

/-- Behind all that are not greater. -/
def ins (x : Int) : List Int → List Int
  | [] => [x]
  | y :: l => if y ≤ x then y :: ins x l else x :: y :: l

/-- How many stand ahead of it. -/
def posI (x : Int) : List Int → Nat
  | [] => 0
  | y :: l => if y ≤ x then posI x l + 1 else 0

def sortI (l : List Int) : List Int := l.foldl (fun o x => ins x o) []

theorem posI_le (x : Int) : ∀ l, posI x l ≤ l.length
  | [] => by simp [posI]
  | y :: l => by
    have := posI_le x l
    simp only [posI, List.length_cons]
    split <;> omega

theorem ins_eq (x : Int) : ∀ l, ins x l = l.take (posI x l) ++ x :: l.drop (posI x l)
  | [] => by simp [ins, posI]
  | y :: l => by
    simp only [ins, posI]
    split
    · rw [ins_eq x l]
      simp
    · simp

theorem ins_len (x : Int) (l : List Int) : (ins x l).length = l.length + 1 := by
  have := posI_le x l
  rw [ins_eq]
  simp
  omega

theorem ins_mem (x y : Int) (l : List Int) : y ∈ ins x l ↔ y = x ∨ y ∈ l := by
  induction l with
  | nil => simp [ins]
  | cons z l ih =>
    simp only [ins]
    split
    · simp only [List.mem_cons, ih]
      constructor
      · rintro (h | h | h)
        · exact .inr (.inl h)
        · exact .inl h
        · exact .inr (.inr h)
      · rintro (h | h | h)
        · exact .inr (.inl h)
        · exact .inl h
        · exact .inr (.inr h)
    · simp only [List.mem_cons]

theorem ins_sorted (x : Int) : ∀ l : List Int, l.Pairwise (· ≤ ·) → (ins x l).Pairwise (· ≤ ·)
  | [], _ => by simp [ins]
  | y :: l, h => by
    obtain ⟨h1, h2⟩ := List.pairwise_cons.1 h
    simp only [ins]
    split
    · rename_i hy
      refine List.pairwise_cons.2 ⟨fun z hz => ?_, ins_sorted x l h2⟩
      rcases (ins_mem x z l).1 hz with rfl | hz
      · exact hy
      · exact h1 z hz
    · rename_i hy
      refine List.pairwise_cons.2 ⟨fun z hz => ?_, h⟩
      rcases List.mem_cons.1 hz with rfl | hz
      · omega
      · have := h1 z hz
        omega

/-- The place from behind: all from k on are greater, the one ahead of k is not. -/
theorem posI_of (x : Int) : ∀ (l : List Int) (k : Nat), l.Pairwise (· ≤ ·) → k ≤ l.length → (∀ j, k ≤ j → j < l.length → x < l.getD j 0) → (k = 0 ∨ l.getD (k - 1) 0 ≤ x) → posI x l = k
  | [], k, _, hk, _, _ => by simp at hk; subst hk; rfl
  | y :: l, 0, _, _, h1, _ => by
    have := h1 0 (Nat.le_refl _) (by simp)
    simp at this
    simp only [posI]
    rw [if_neg (by omega)]
  | y :: l, k + 1, hs, hk, h1, h2 => by
    obtain ⟨s1, s2⟩ := List.pairwise_cons.1 hs
    have hk' : k ≤ l.length := by simpa using hk
    have ih := posI_of x l k s2 hk' (fun j hj hl => by
      have := h1 (j + 1) (by omega) (by simp; omega)
      simpa using this) (by
      by_cases e : k = 0
      · exact .inl e
      · refine .inr ?_
        rcases h2 with h2 | h2
        · omega
        · obtain ⟨k', rfl⟩ : ∃ k', k = k' + 1 := ⟨k - 1, by omega⟩
          simpa using h2)
    have hy : y ≤ x := by
      rcases h2 with h2 | h2
      · omega
      · by_cases e : k = 0
        · subst e
          simpa using h2
        · obtain ⟨k', rfl⟩ : ∃ k', k = k' + 1 := ⟨k - 1, by omega⟩
          have h3 : l.getD k' 0 ≤ x := by simpa using h2
          have : y ≤ l.getD k' 0 := s1 _ (by
            rw [List.getD_eq_getElem?_getD, List.getElem?_eq_getElem (by omega)]
            exact List.getElem_mem _)
          omega
    simp only [posI]
    rw [if_pos hy, ih]

theorem sortI_snoc (l : List Int) (x : Int) : sortI (l ++ [x]) = ins x (sortI l) := by simp [sortI]

theorem sortI_sorted (l : List Int) : (sortI l).Pairwise (· ≤ ·) := by
  have : ∀ (l o : List Int), o.Pairwise (· ≤ ·) → (l.foldl (fun o x => ins x o) o).Pairwise (· ≤ ·) := by
    intro l
    induction l with
    | nil => exact fun o h => h
    | cons x l ih => exact fun o h => ih _ (ins_sorted x o h)
  exact this l [] List.Pairwise.nil

theorem sortI_mem (l : List Int) (y : Int) : y ∈ sortI l ↔ y ∈ l := by
  have : ∀ (l o : List Int), y ∈ l.foldl (fun o x => ins x o) o ↔ y ∈ o ∨ y ∈ l := by
    intro l
    induction l with
    | nil => intro o; simp
    | cons x l ih =>
      intro o
      show y ∈ l.foldl _ (ins x o) ↔ _
      rw [ih, ins_mem, List.mem_cons]
      constructor
      · rintro ((h | h) | h)
        · exact .inr (.inl h)
        · exact .inl h
        · exact .inr (.inr h)
      · rintro (h | h | h)
        · exact .inl (.inr h)
        · exact .inl (.inl h)
        · exact .inr h
  rw [sortI, this l []]
  simp

theorem sortI_len (l : List Int) : (sortI l).length = l.length := by
  have : ∀ (l o : List Int), (l.foldl (fun o x => ins x o) o).length = o.length + l.length := by
    intro l
    induction l with
    | nil => intro o; simp
    | cons x l ih =>
      intro o
      show (l.foldl _ (ins x o)).length = _
      rw [ih, ins_len, List.length_cons]
      omega
  rw [sortI, this l []]
  simp

/-- Rising without doubles. -/
theorem sortI_rising (l : List Int) (h : l.Nodup) : (sortI l).Pairwise (· < ·) := by
  have : ∀ (l o : List Int), o.Pairwise (· < ·) → (∀ x ∈ l, x ∉ o) → l.Nodup → (l.foldl (fun o x => ins x o) o).Pairwise (· < ·) := by
    intro l
    induction l with
    | nil => exact fun o h _ _ => h
    | cons x l ih =>
      intro o ho hx hn
      obtain ⟨n1, n2⟩ := List.nodup_cons.1 hn
      refine ih _ ?_ ?_ n2
      · have hxo := hx x (by simp)
        clear hx ih hn n1 n2
        induction o with
        | nil => simp [ins]
        | cons y o iho =>
          obtain ⟨p1, p2⟩ := List.pairwise_cons.1 ho
          simp only [List.mem_cons, not_or] at hxo
          simp only [ins]
          split
          · refine List.pairwise_cons.2 ⟨fun z hz => ?_, iho p2 hxo.2⟩
            rcases (ins_mem x z o).1 hz with rfl | hz
            · have := hxo.1
              omega
            · exact p1 z hz
          · refine List.pairwise_cons.2 ⟨fun z hz => ?_, ho⟩
            rcases List.mem_cons.1 hz with rfl | hz
            · omega
            · have := p1 z hz
              omega
      · intro z hz hz2
        rcases (ins_mem x z o).1 hz2 with rfl | h2
        · exact n1 hz
        · exact hx z (by simp [hz]) h2
  exact this l [] List.Pairwise.nil (by simp) h

/-- Two rising lists of the same numbers are one. -/
theorem rising_same : ∀ (a b : List Int), a.Pairwise (· < ·) → b.Pairwise (· < ·) → (∀ x, x ∈ a ↔ x ∈ b) → a = b
  | [], [], _, _, _ => rfl
  | [], y :: b, _, _, h => by have := (h y).2 (by simp); simp at this
  | x :: a, [], _, _, h => by have := (h x).1 (by simp); simp at this
  | x :: a, y :: b, ha, hb, h => by
    obtain ⟨a1, a2⟩ := List.pairwise_cons.1 ha
    obtain ⟨b1, b2⟩ := List.pairwise_cons.1 hb
    have e : x = y := by
      rcases List.mem_cons.1 ((h x).1 (by simp)) with e | e
      · exact e
      · rcases List.mem_cons.1 ((h y).2 (by simp)) with e2 | e2
        · exact e2.symm
        · have := b1 x e
          have := a1 y e2
          omega
    subst e
    rw [rising_same a b a2 b2 fun z => ⟨fun hz => ?_, fun hz => ?_⟩]
    · rcases List.mem_cons.1 ((h z).1 (by simp [hz])) with e | e
      · subst e
        have := a1 z hz
        omega
      · exact e
    · rcases List.mem_cons.1 ((h z).2 (by simp [hz])) with e | e
      · subst e
        have := b1 z hz
        omega
      · exact e

theorem rising_nodup {a : List Int} (h : a.Pairwise (· < ·)) : a.Nodup := h.imp (fun h e => by omega)

theorem sortI_same (a b : List Int) (ha : a.Nodup) (hb : b.Nodup) (h : ∀ x, x ∈ a ↔ x ∈ b) : sortI a = sortI b :=
  rising_same _ _ (sortI_rising a ha) (sortI_rising b hb) fun x => by rw [sortI_mem, sortI_mem]; exact h x

end Go.Proofs.Ytkaohjlnlgennaa.ev
