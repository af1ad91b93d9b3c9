/- The order in which blocks that may be are put does not count; what is taken out and put back is as it was. No word of the program. -/
import Derived.Test.YtedhlidmmmlemaaNew
namespace Go.Proofs.Ytedhlidmmmlemaa.st
open Go.ChangeShapes Go.WideShapes Go.ChangeAt Go.RowKit Go.Proofs.Ytedhlidmmmlemaa.hp
set_option linter.unusedVariables false
set_option linter.unusedSimpArgs false

theorem put_all : ∀ (l : List Bk) (s : List Bk × Nat), okL s.1 → s.2 = s.1.length → (∀ b ∈ l, okB b) → (l.map (·.1)).Nodup → (∀ b ∈ l, hasL s.1 b.1 = false) →
    okL (l.foldl putS s).1 ∧ (l.foldl putS s).2 = (l.foldl putS s).1.length ∧ (l.foldl putS s).1.length = s.1.length + l.length ∧ ∀ c, c ∈ (l.foldl putS s).1 ↔ c ∈ s.1 ∨ c ∈ l
  | [], s, h1, h2, _, _, _ => ⟨h1, h2, by simp, fun c => by simp⟩
  | b :: l, s, h1, h2, h3, h4, h5 => by
    have hb := h3 b (by simp)
    have hn := h5 b (by simp)
    have e : putS s b = (putL s.1 b, max s.2 (putL s.1 b).length) := by
      unfold putS putA mostA
      rw [if_pos hb, if_pos hb]
    have hl : (putL s.1 b).length = s.1.length + 1 := by rw [put_len, hn]; rfl
    rw [List.map_cons, List.nodup_cons] at h4
    obtain ⟨r1, r2, r3, r4⟩ := put_all l (putS s b) (by rw [e]; exact h1.put hb) (by rw [e]; show max s.2 (putL s.1 b).length = (putL s.1 b).length; omega) (fun c hc => h3 c (by simp [hc])) h4.2 (by
      intro c hc
      rw [e]
      cases hh : hasL (putL s.1 b) c.1
      · rfl
      · obtain ⟨d, hd, hd2⟩ := (has_iff (srt_put h1.1 b) c.1).1 hh
        rcases (mem_put h1.1 b d).1 hd with rfl | ⟨hd3, _⟩
        · exact (h4.1 (by rw [hd2]; exact List.mem_map_of_mem hc)).elim
        · have := h5 c (by simp [hc])
          rw [(has_iff h1.1 c.1).2 ⟨d, hd3, hd2⟩] at this
          cases this)
    rw [List.foldl_cons]
    refine ⟨r1, r2, by rw [r3, e, List.length_cons]; show (putL s.1 b).length + _ = _; omega, fun c => ?_⟩
    rw [r4, e]
    show c ∈ putL s.1 b ∨ _ ↔ _
    rw [mem_put h1.1, List.mem_cons]
    constructor
    · rintro ((h | h) | h)
      · exact .inr (.inl h)
      · exact .inl h.1
      · exact .inr (.inr h)
    · rintro (h | h | h)
      · refine .inl (.inr ⟨h, fun e2 => ?_⟩)
        have := (has_iff h1.1 b.1).2 ⟨c, h, e2⟩
        rw [hn] at this
        cases this
      · exact .inl (.inl h)
      · exact .inr h

theorem new_all {l : List Bk} (h : mayP l) : okL (newS l).1 ∧ (newS l).2 = l.length ∧ (newS l).1.length = l.length ∧ ∀ c, c ∈ (newS l).1 ↔ c ∈ l := by
  obtain ⟨r1, r2, r3, r4⟩ := put_all l ([], 0) okL.nil rfl h.1 h.2 (fun b hb => by simp [hasL])
  have e : newS l = l.foldl putS ([], 0) := rfl
  rw [← e] at r1 r2 r3 r4
  have r3' : (newS l).1.length = l.length := by simpa using r3
  exact ⟨r1, by omega, r3', fun c => (r4 c).trans (by simp)⟩

theorem new_perm {l m : List Bk} (h : mayP l) (hp : l.Perm m) : newS l = newS m := by
  have h2 : mayP m := ⟨fun b hb => h.1 b (hp.mem_iff.2 hb), (hp.map (·.1)).nodup_iff.1 h.2⟩
  obtain ⟨a1, a2, a3, a4⟩ := new_all h
  obtain ⟨b1, b2, b3, b4⟩ := new_all h2
  refine Prod.ext (srt_ext a1.1 b1.1 fun c => ?_) ?_
  · rw [a4, b4]
    exact hp.mem_iff
  · rw [a2, b2]
    exact hp.length_eq

theorem srt_one {L : List Bk} (h : srt L) {b c : Bk} (hb : b ∈ L) (hc : c ∈ L) (e : b.1 = c.1) : b = c := by
  obtain ⟨i, hi, rfl⟩ := mem_getD hb
  obtain ⟨j, hj, rfl⟩ := mem_getD hc
  rcases Nat.lt_trichotomy i j with h1 | h1 | h1
  · have := srt_get h i j h1 hj
    omega
  · rw [h1]
  · have := srt_get h j i h1 hi
    omega

theorem put_back {L : List Bk} (h : okL L) {id : Int} (hh : hasL L id = true) : okB (getL L id) ∧ (getL L id).1 = id ∧ putL (delL L id) (getL L id) = L := by
  obtain ⟨p1, p2⟩ := has_at hh
  have e : getL L id = L.getD (posL L id) dBk := by unfold getL; rw [if_pos hh]
  rw [← e] at p2
  have hm : getL L id ∈ L := by rw [e]; exact getD_mem p1
  refine ⟨h.2 _ hm, p2, srt_ext (srt_put (srt_del h.1 id) _) h.1 fun c => ?_⟩
  rw [mem_put (srt_del h.1 id), mem_del h.1, p2]
  constructor
  · rintro (rfl | h1)
    · exact hm
    · exact h1.1.1
  · intro hc
    by_cases e2 : c.1 = id
    · exact .inl (srt_one h.1 hc hm (e2.trans p2.symm))
    · exact .inr ⟨⟨hc, e2⟩, e2⟩

theorem put_back_s {L : List Bk} {m : Nat} (h : okL L) (hm : L.length ≤ m) {id : Int} (hh : hasL L id = true) : putA (delL L id) (getL L id) = L ∧ mostA (delL L id) m (getL L id) = m := by
  obtain ⟨h1, h2, h3⟩ := put_back h hh
  unfold putA mostA
  rw [if_pos h1, if_pos h1, h3]
  exact ⟨rfl, by omega⟩

theorem rot_get {α : Type} (xs : List α) (d : α) (K : Nat) (hK : K < xs.length) (k : Nat) (hk : k < xs.length) : (xs.drop K ++ xs.take K).getD k d = xs.getD ((k + K) % xs.length) d := by
  rw [List.getD_eq_getElem?_getD, List.getD_eq_getElem?_getD]
  by_cases h : k < xs.length - K
  · rw [List.getElem?_append_left (by rw [List.length_drop]; exact h), List.getElem?_drop, Nat.mod_eq_of_lt (by omega), Nat.add_comm]
  · rw [List.getElem?_append_right (by rw [List.length_drop]; omega), List.length_drop, List.getElem?_take, if_pos (by omega)]
    have e : (k + K) % xs.length = k - (xs.length - K) := by
      rw [show k + K = (k - (xs.length - K)) + xs.length by omega, Nat.add_mod_right, Nat.mod_eq_of_lt (by omega)]
    rw [e]

theorem rot_perm {α : Type} (xs : List α) (K : Nat) : xs.Perm (xs.drop K ++ xs.take K) := by
  have := List.perm_append_comm (l₁ := xs.take K) (l₂ := xs.drop K)
  rwa [List.take_append_drop] at this

theorem has_of_get {L : List Bk} (h : srt L) (k : Nat) (hk : k < L.length) : hasL L ((L.map (·.1)).getD k 0) = true := by
  refine (has_iff h _).2 ⟨L.getD k dBk, getD_mem hk, ?_⟩
  rw [List.getD_eq_getElem?_getD, List.getD_eq_getElem?_getD, List.getElem?_map, List.getElem?_eq_getElem hk]
  rfl

theorem has_del {L : List Bk} (h : srt L) (id : Int) : hasL (delL L id) id = false := by
  cases e : hasL (delL L id) id
  · rfl
  · obtain ⟨b, hb, hb2⟩ := (has_iff (srt_del h id) id).1 e
    exact (((mem_del h id b).1 hb).2 hb2).elim

end Go.Proofs.Ytedhlidmmmlemaa.st
