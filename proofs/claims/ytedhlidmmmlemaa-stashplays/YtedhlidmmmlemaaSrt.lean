/- Blocks by rising id, as plain lists: where an id has its place, what is put, what is taken. -/
import Derived.Test.YtedhlidmmmlemaaBkm
namespace Go.Proofs.Ytedhlidmmmlemaa.st
open Go.RowKit
set_option linter.unusedVariables false

/-- By rising id, one of an id. -/
def srt (L : List Bk) : Prop := L.Pairwise fun a b => a.1 < b.1

/-- Where an id has its place. -/
def posL (L : List Bk) (id : Int) : Nat := (L.takeWhile fun b => decide (b.1 < id)).length

def hasL (L : List Bk) (id : Int) : Bool := decide (posL L id < L.length ∧ (L.getD (posL L id) dBk).1 = id)
def getL (L : List Bk) (id : Int) : Bk := if hasL L id then L.getD (posL L id) dBk else dBk
def putL (L : List Bk) (b : Bk) : List Bk := L.take (posL L b.1) ++ b :: L.drop (if hasL L b.1 then posL L b.1 + 1 else posL L b.1)
def delL (L : List Bk) (id : Int) : List Bk := if hasL L id then L.take (posL L id) ++ L.drop (posL L id + 1) else L

theorem pos_le (L : List Bk) (id : Int) : posL L id ≤ L.length := by
  unfold posL
  induction L with
  | nil => simp
  | cons c L ih =>
    rw [List.takeWhile_cons]
    split <;> simp <;> omega

theorem pos_cons (c : Bk) (L : List Bk) (id : Int) : posL (c :: L) id = if c.1 < id then posL L id + 1 else 0 := by
  unfold posL
  rw [List.takeWhile_cons]
  by_cases h : c.1 < id
  · simp [h]
  · simp [h]

theorem pos_before (L : List Bk) (id : Int) : ∀ j, j < posL L id → (L.getD j dBk).1 < id := by
  induction L with
  | nil => intro j hj; simp [posL] at hj
  | cons c L ih =>
    intro j hj
    rw [pos_cons] at hj
    split at hj
    · rename_i h
      cases j with
      | zero => simpa using h
      | succ j => simpa using ih j (by omega)
    · omega

theorem pos_at (L : List Bk) (id : Int) (h : posL L id < L.length) : id ≤ (L.getD (posL L id) dBk).1 := by
  induction L with
  | nil => simp at h
  | cons c L ih =>
    rw [pos_cons] at h ⊢
    split
    · rename_i hc
      rw [if_pos hc] at h
      simpa using ih (by simpa using h)
    · simp
      omega

theorem pos_eq (L : List Bk) (id : Int) (i : Nat) (hi : i ≤ L.length) (h1 : ∀ j, j < i → (L.getD j dBk).1 < id) (h2 : i < L.length → id ≤ (L.getD i dBk).1) : i = posL L id := by
  by_cases h : i < posL L id
  · have := pos_before L id i h
    have := h2 (by have := pos_le L id; omega)
    omega
  · by_cases h' : posL L id < i
    · have := h1 _ h'
      have := pos_at L id (by omega)
      omega
    · omega

theorem srt_get {L : List Bk} (h : srt L) (i j : Nat) (hij : i < j) (hj : j < L.length) : (L.getD i dBk).1 < (L.getD j dBk).1 := by
  have := List.pairwise_iff_getElem.1 h i j (by omega) hj hij
  rw [List.getD_eq_getElem?_getD, List.getD_eq_getElem?_getD, List.getElem?_eq_getElem hj, List.getElem?_eq_getElem (show i < L.length by omega)]
  exact this

theorem pos_after {L : List Bk} (h : srt L) (id : Int) (j : Nat) (h1 : posL L id ≤ j) (hj : j < L.length) : id ≤ (L.getD j dBk).1 := by
  have h0 := pos_at L id (by omega)
  by_cases e : posL L id = j
  · subst e; exact h0
  · have := srt_get h (posL L id) j (by omega) hj
    omega

theorem getD_mem {L : List Bk} {i : Nat} (h : i < L.length) : L.getD i dBk ∈ L := by
  rw [List.getD_eq_getElem?_getD, List.getElem?_eq_getElem h]
  exact List.getElem_mem _

theorem mem_getD {L : List Bk} {b : Bk} (h : b ∈ L) : ∃ j, j < L.length ∧ L.getD j dBk = b := by
  obtain ⟨j, hj⟩ := List.mem_iff_getElem?.1 h
  have hl := (List.getElem?_eq_some_iff.1 hj).1
  exact ⟨j, hl, by rw [List.getD_eq_getElem?_getD, hj]; rfl⟩

theorem has_iff {L : List Bk} (h : srt L) (id : Int) : hasL L id = true ↔ ∃ b ∈ L, b.1 = id := by
  unfold hasL
  rw [decide_eq_true_eq]
  constructor
  · rintro ⟨h1, h2⟩
    exact ⟨_, getD_mem h1, h2⟩
  · rintro ⟨b, hb, rfl⟩
    obtain ⟨j, hj, rfl⟩ := mem_getD hb
    have e : j = posL L (L.getD j dBk).1 := pos_eq L _ j (by omega) (fun t ht => srt_get h t j ht hj) (fun _ => by omega)
    rw [← e]
    exact ⟨hj, rfl⟩

theorem has_at {L : List Bk} {id : Int} (h : hasL L id = true) : posL L id < L.length ∧ (L.getD (posL L id) dBk).1 = id := of_decide_eq_true h

theorem take_cons_drop (L : List Bk) (i : Nat) (h : i < L.length) : L = L.take i ++ L.getD i dBk :: L.drop (i + 1) := by
  rw [List.getD_eq_getElem?_getD, List.getElem?_eq_getElem h]
  show L = L.take i ++ L[i] :: L.drop (i + 1)
  rw [← List.drop_eq_getElem_cons h, List.take_append_drop]

theorem mem_take_pos {L : List Bk} {id : Int} {b : Bk} (h : b ∈ L.take (posL L id)) : b.1 < id := by
  obtain ⟨j, hj⟩ := List.mem_iff_getElem?.1 h
  have hl := (List.getElem?_eq_some_iff.1 hj).1
  rw [List.length_take] at hl
  rw [List.getElem?_take_of_lt (by omega)] at hj
  have := pos_before L id j (by omega)
  rwa [List.getD_eq_getElem?_getD, hj] at this

theorem mem_drop_pos {L : List Bk} (hs : srt L) {id : Int} {b : Bk} {k : Nat} (hk : posL L id ≤ k) (h : b ∈ L.drop k) : id ≤ b.1 := by
  obtain ⟨j, hj⟩ := List.mem_iff_getElem?.1 h
  have hl := (List.getElem?_eq_some_iff.1 hj).1
  rw [List.length_drop] at hl
  rw [List.getElem?_drop] at hj
  have := pos_after hs id (k + j) (by omega) (by omega)
  rwa [List.getD_eq_getElem?_getD, hj] at this

theorem mem_drop_has {L : List Bk} (hs : srt L) {id : Int} (hh : hasL L id = true) {b : Bk} (h : b ∈ L.drop (posL L id + 1)) : id < b.1 := by
  obtain ⟨h1, h2⟩ := has_at hh
  obtain ⟨j, hj⟩ := List.mem_iff_getElem?.1 h
  have hl := (List.getElem?_eq_some_iff.1 hj).1
  rw [List.length_drop] at hl
  rw [List.getElem?_drop] at hj
  have := srt_get hs (posL L id) (posL L id + 1 + j) (by omega) (by omega)
  rw [h2, List.getD_eq_getElem?_getD, hj] at this
  exact this

theorem mem_drop_not {L : List Bk} (hs : srt L) {id : Int} (hh : hasL L id = false) {b : Bk} (h : b ∈ L.drop (posL L id)) : id < b.1 := by
  have h1 := mem_drop_pos hs (Nat.le_refl _) h
  have h2 : b.1 ≠ id := by
    intro e
    have : hasL L id = true := (has_iff hs id).2 ⟨b, List.mem_of_mem_drop h, e⟩
    rw [hh] at this
    cases this
  omega

theorem srt_put {L : List Bk} (hs : srt L) (b : Bk) : srt (putL L b) := by
  unfold putL srt
  refine List.pairwise_append.2 ⟨hs.sublist (List.take_sublist _ _), List.pairwise_cons.2 ⟨?_, hs.sublist (List.drop_sublist _ _)⟩, ?_⟩
  · intro c hc
    cases hh : hasL L b.1
    · rw [hh] at hc
      exact mem_drop_not hs hh hc
    · rw [hh] at hc
      exact mem_drop_has hs hh hc
  · intro a ha c hc
    have h1 := mem_take_pos ha
    rcases List.mem_cons.1 hc with rfl | hc
    · exact h1
    · have : b.1 ≤ c.1 := mem_drop_pos hs (by split <;> omega) hc
      omega

theorem srt_del {L : List Bk} (hs : srt L) (id : Int) : srt (delL L id) := by
  unfold delL
  split
  · rename_i hh
    refine List.pairwise_append.2 ⟨hs.sublist (List.take_sublist _ _), hs.sublist (List.drop_sublist _ _), ?_⟩
    intro a ha c hc
    have h1 := mem_take_pos ha
    have h2 := mem_drop_has hs hh hc
    omega
  · exact hs

theorem put_len {L : List Bk} (b : Bk) : (putL L b).length = if hasL L b.1 then L.length else L.length + 1 := by
  unfold putL
  have h1 := pos_le L b.1
  cases hh : hasL L b.1
  · simp only [List.length_append, List.length_take, List.length_cons, List.length_drop, Bool.false_eq_true, if_false]
    omega
  · have := (has_at hh).1
    simp only [List.length_append, List.length_take, List.length_cons, List.length_drop, if_true]
    omega

theorem del_len {L : List Bk} (id : Int) : (delL L id).length = if hasL L id then L.length - 1 else L.length := by
  unfold delL
  cases hh : hasL L id
  · simp
  · have := (has_at hh).1
    simp only [List.length_append, List.length_take, List.length_drop, if_true]
    omega

theorem mem_put {L : List Bk} (hs : srt L) (b c : Bk) : c ∈ putL L b ↔ c = b ∨ (c ∈ L ∧ c.1 ≠ b.1) := by
  unfold putL
  constructor
  · intro h
    rcases List.mem_append.1 h with h | h
    · have := mem_take_pos h
      exact .inr ⟨List.mem_of_mem_take h, by omega⟩
    · rcases List.mem_cons.1 h with h | h
      · exact .inl h
      · refine .inr ⟨List.mem_of_mem_drop h, ?_⟩
        cases hh : hasL L b.1
        · rw [hh] at h
          have := mem_drop_not hs hh h
          omega
        · rw [hh] at h
          have := mem_drop_has hs hh h
          omega
  · rintro (rfl | ⟨h, hne⟩)
    · simp
    · cases hh : hasL L b.1
      · rw [← List.take_append_drop (posL L b.1) L] at h
        rcases List.mem_append.1 h with h | h
        · exact List.mem_append.2 (.inl h)
        · exact List.mem_append.2 (.inr (List.mem_cons_of_mem _ (by simpa using h)))
      · obtain ⟨h1, h2⟩ := has_at hh
        rw [take_cons_drop L _ h1] at h
        rcases List.mem_append.1 h with h | h
        · exact List.mem_append.2 (.inl h)
        · rcases List.mem_cons.1 h with rfl | h
          · exact (hne h2).elim
          · exact List.mem_append.2 (.inr (List.mem_cons_of_mem _ (by simpa using h)))

theorem mem_del {L : List Bk} (hs : srt L) (id : Int) (c : Bk) : c ∈ delL L id ↔ c ∈ L ∧ c.1 ≠ id := by
  unfold delL
  cases hh : hasL L id
  · simp only [Bool.false_eq_true, if_false]
    refine ⟨fun h => ⟨h, fun e => ?_⟩, fun h => h.1⟩
    have : hasL L id = true := (has_iff hs id).2 ⟨c, h, e⟩
    rw [hh] at this
    cases this
  · simp only [if_true]
    obtain ⟨h1, h2⟩ := has_at hh
    constructor
    · intro h
      rcases List.mem_append.1 h with h | h
      · have := mem_take_pos h
        exact ⟨List.mem_of_mem_take h, by omega⟩
      · have := mem_drop_has hs hh h
        exact ⟨List.mem_of_mem_drop h, by omega⟩
    · rintro ⟨h, hne⟩
      rw [take_cons_drop L _ h1] at h
      rcases List.mem_append.1 h with h | h
      · exact List.mem_append.2 (.inl h)
      · rcases List.mem_cons.1 h with rfl | h
        · exact (hne h2).elim
        · exact List.mem_append.2 (.inr h)

/-- Two lists by rising id with the same blocks are one. -/
theorem srt_ext : ∀ {L M : List Bk}, srt L → srt M → (∀ c, c ∈ L ↔ c ∈ M) → L = M
  | [], [], _, _, _ => rfl
  | [], c :: M, _, _, h => by have := (h c).2 (by simp); simp at this
  | c :: L, [], _, _, h => by have := (h c).1 (by simp); simp at this
  | a :: L, b :: M, hL, hM, h => by
    have ha := List.pairwise_cons.1 hL
    have hb := List.pairwise_cons.1 hM
    have e : a = b := by
      rcases List.mem_cons.1 ((h a).1 (by simp)) with e | e
      · exact e
      · rcases List.mem_cons.1 ((h b).2 (by simp)) with e' | e'
        · exact e'.symm
        · have h1 := hb.1 a e
          have h2 := ha.1 b e'
          omega
    subst e
    congr 1
    refine srt_ext ha.2 hb.2 fun c => ⟨fun hc => ?_, fun hc => ?_⟩
    · rcases List.mem_cons.1 ((h c).1 (by simp [hc])) with e | e
      · subst e
        have := ha.1 c hc
        omega
      · exact e
    · rcases List.mem_cons.1 ((h c).2 (by simp [hc])) with e | e
      · subst e
        have := hb.1 c hc
        omega
      · exact e

theorem len_bound : ∀ (L : List Bk) (a : Int), srt L → (∀ b ∈ L, a ≤ b.1 ∧ b.1 < 64) → L = [] ∨ (L.length : Int) ≤ 64 - a
  | [], _, _, _ => .inl rfl
  | c :: L, a, hs, h => by
    have hc := List.pairwise_cons.1 hs
    have h0 := h c (by simp)
    rcases len_bound L (c.1 + 1) hc.2 (fun b hb => ⟨by have := hc.1 b hb; omega, (h b (by simp [hb])).2⟩) with e | e
    · subst e
      right
      simp
      omega
    · right
      simp
      omega

/-- What a stash has. -/
def okL (L : List Bk) : Prop := srt L ∧ ∀ b ∈ L, okB b

theorem okL.len {L : List Bk} (h : okL L) : L.length ≤ 64 := by
  rcases len_bound L 0 h.1 (fun b hb => ⟨(h.2 b hb).1, (h.2 b hb).2.1⟩) with e | e
  · subst e; simp
  · omega

theorem okL.nil : okL [] := ⟨List.Pairwise.nil, fun b hb => by simp at hb⟩

theorem okL.put {L : List Bk} (h : okL L) {b : Bk} (hb : okB b) : okL (putL L b) := by
  refine ⟨srt_put h.1 b, fun c hc => ?_⟩
  rcases (mem_put h.1 b c).1 hc with rfl | ⟨h1, _⟩
  · exact hb
  · exact h.2 c h1

theorem okL.del {L : List Bk} (h : okL L) (id : Int) : okL (delL L id) := ⟨srt_del h.1 id, fun c hc => h.2 c ((mem_del h.1 id c).1 hc).1⟩

/-- Put, also of what may not be. -/
def putA (L : List Bk) (b : Bk) : List Bk := if okB b then putL L b else L

theorem okL.putA {L : List Bk} (h : okL L) (b : Bk) : okL (putA L b) := by
  unfold st.putA
  split
  · exact h.put ‹_›
  · exact h

/-- The greatest length that there was. -/
def mostA (L : List Bk) (m : Nat) (b : Bk) : Nat := if okB b then max m (putL L b).length else m

end Go.Proofs.Ytedhlidmmmlemaa.st
