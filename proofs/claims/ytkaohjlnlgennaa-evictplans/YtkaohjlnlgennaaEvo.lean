/- Who goes where: the order of the buckets (the deepest level first), room for all, larger buckets. Plain lists. -/
import Derived.Test.YtkaohjlnlgennaaEvp
namespace Go.Proofs.Ytkaohjlnlgennaa.ev
set_option linter.unusedVariables false
set_option linter.unusedSimpArgs false

/-- The buckets of the k deepest levels, the deepest first. -/
def ordTo (lv : Int → Nat) (u : List Int) (h : Nat) : Nat → List Int
  | 0 => []
  | k + 1 => ordTo lv u h k ++ u.filter fun b => decide (lv b + k = h)

section
variable {lv : Int → Nat} {u : List Int} {h : Nat}

theorem ordTo_mem (b : Int) : ∀ k, b ∈ ordTo lv u h k ↔ b ∈ u ∧ h < lv b + k ∧ lv b ≤ h
  | 0 => by
    simp only [ordTo, List.not_mem_nil, false_iff]
    omega
  | k + 1 => by
    simp only [ordTo, List.mem_append, ordTo_mem b k, List.mem_filter, decide_eq_true_eq]
    constructor
    · rintro (h1 | h1)
      · exact ⟨h1.1, by omega, h1.2.2⟩
      · exact ⟨h1.1, by omega, by omega⟩
    · rintro ⟨h1, h2, h3⟩
      by_cases e : lv b + k = h
      · exact .inr ⟨h1, e⟩
      · exact .inl ⟨h1, by omega, h3⟩

theorem ordTo_nodup (hu : u.Nodup) : ∀ k, (ordTo lv u h k).Nodup
  | 0 => by simp [ordTo]
  | k + 1 => by
    refine List.nodup_append.2 ⟨ordTo_nodup hu k, hu.sublist List.filter_sublist, ?_⟩
    intro a ha b hb e
    subst e
    have h1 := (ordTo_mem a k).1 ha
    have h2 := (List.mem_filter.1 hb).2
    simp only [decide_eq_true_eq] at h2
    omega

theorem ordTo_front (k : Nat) : ∀ j, ∃ t, ordTo lv u h (k + j) = ordTo lv u h k ++ t
  | 0 => ⟨[], by simp⟩
  | j + 1 => by
    obtain ⟨t, ht⟩ := ordTo_front k j
    exact ⟨t ++ u.filter fun b => decide (lv b + (k + j) = h), by
      show ordTo lv u h (k + j) ++ u.filter (fun b => decide (lv b + (k + j) = h)) = _
      rw [ht, List.append_assoc]⟩

/-- The deeper one comes first. -/
theorem ordTo_order (b c : Int) (hb : b ∈ u) (hc : c ∈ u) (hlt : lv c < lv b) (hle : lv b ≤ h) : ∃ o1 o2 o3, ordTo lv u h (h + 1) = o1 ++ b :: o2 ++ c :: o3 := by
  have h1 : b ∈ ordTo lv u h (h - lv b + 1) := (ordTo_mem b _).2 ⟨hb, by omega, hle⟩
  have h2 : c ∉ ordTo lv u h (h - lv b + 1) := fun e => by have := (ordTo_mem c _).1 e; omega
  obtain ⟨t, ht⟩ := ordTo_front (lv := lv) (u := u) (h := h) (h - lv b + 1) (lv b)
  rw [show h - lv b + 1 + lv b = h + 1 by omega] at ht
  have h3 : c ∈ ordTo lv u h (h + 1) := (ordTo_mem c _).2 ⟨hc, by omega, by omega⟩
  rw [ht] at h3
  rcases List.mem_append.1 h3 with h4 | h4
  · exact (h2 h4).elim
  obtain ⟨o1, o2, ho⟩ := List.append_of_mem h1
  obtain ⟨o3, o4, ho2⟩ := List.append_of_mem h4
  exact ⟨o1, o2 ++ o3, o4, by rw [ht, ho, ho2]; simp⟩

variable {on : Int → Int → Bool} {z : Nat} {s : (Int → List Int) × List Int}

theorem all_mem (hl : ∀ b ∈ u, lv b ≤ h) (b : Int) : b ∈ ordTo lv u h (h + 1) ↔ b ∈ u := by
  rw [ordTo_mem]
  exact ⟨fun h => h.1, fun e => ⟨e, by omega, hl b e⟩⟩

/-- Who lies above b although it is on b: b is full. -/
theorem all_deep (hu : u.Nodup) (hl : ∀ b ∈ u, lv b ≤ h) (b c : Int) (hb : b ∈ u) (hc : c ∈ u) (hlt : lv c < lv b) (x : Int) (hx : x ∈ (fill on z (ordTo lv u h (h + 1)) s).1 c) (ho : on b x = true) :
    ((fill on z (ordTo lv u h (h + 1)) s).1 b).length = z := by
  obtain ⟨o1, o2, o3, e⟩ := ordTo_order b c hb hc hlt (hl b hb)
  have hn : (ordTo lv u h (h + 1)).Nodup := ordTo_nodup hu _
  rw [e] at hn hx ⊢
  exact fill_deep b c o1 o2 o3 s hn x hx ho

/-- Rows without doubles: if all of xs lie in ys and one of ys doesn't lie in xs, xs is shorter. -/
theorem shorter {xs ys : List Int} (hx : xs.Nodup) (hy : ys.Nodup) (h : ∀ a ∈ xs, a ∈ ys) (b : Int) (hb : b ∈ ys) (hb2 : b ∉ xs) : xs.length < ys.length := by
  have hs : ∀ a ∈ xs, a ∈ ys.erase b := fun a ha => (List.mem_erase_of_ne (fun e => hb2 (by rw [← e]; exact ha))).2 (h a ha)
  have key : ∀ (xs ys : List Int), xs.Nodup → (∀ a ∈ xs, a ∈ ys) → xs.length ≤ ys.length := by
    intro xs
    induction xs with
    | nil => intro ys _ _; simp
    | cons a xs ih =>
      intro ys hn hs
      obtain ⟨ha, hn⟩ := List.nodup_cons.1 hn
      have h1 : a ∈ ys := hs a (by simp)
      have h2 := ih (ys.erase a) hn fun c hc => (List.mem_erase_of_ne (fun e => ha (by rw [← e]; exact hc))).2 (hs c (by simp [hc]))
      rw [List.length_erase_of_mem h1] at h2
      have := List.length_pos_of_mem h1
      simp only [List.length_cons]
      omega
  have h1 := key xs (ys.erase b) hx hs
  rw [List.length_erase_of_mem hb] at h1
  have := List.length_pos_of_mem hb
  omega

/-- With room for all each lies in the deepest bucket that it is on. -/
theorem room (hu : u.Nodup) (hl : ∀ b ∈ u, lv b ≤ h) (hs : s.2.Nodup) (hz : s.2.length ≤ z) (x : Int) (hx : x ∈ s.2) (b : Int) (hb : b ∈ u) (ho : on b x = true) :
    ∃ c ∈ u, x ∈ (fill on z (ordTo lv u h (h + 1)) s).1 c ∧ on c x = true ∧ ∀ b ∈ u, on b x = true → lv b ≤ lv c := by
  have hn : (ordTo lv u h (h + 1)).Nodup := ordTo_nodup hu _
  have hall := all_mem (lv := lv) (u := u) (h := h) hl
  -- no bucket that is without x is full
  have key : ∀ c ∈ u, x ∉ (fill on z (ordTo lv u h (h + 1)) s).1 c → ((fill on z (ordTo lv u h (h + 1)) s).1 c).length < z := by
    intro c hc hx2
    have hsub : ((fill on z (ordTo lv u h (h + 1)) s).1 c).Sublist s.2 := by
      obtain ⟨o1, o2, e⟩ := List.append_of_mem ((hall c).2 hc)
      rw [e] at hn ⊢
      rw [fill_at c o1 o2 s (nodup_mid hn)]
      exact (pick_sub _ _).1.trans (fill_sub o1 s)
    have := shorter (hs.sublist hsub) hs (fun a ha => hsub.subset ha) x hx hx2
    omega
  rcases fill_somewhere (on := on) (z := z) x (ordTo lv u h (h + 1)) s hn hx with h1 | ⟨c, hc, h1⟩
  · exfalso
    have h2 := fill_left b _ s ((hall b).2 hb) hn x h1 ho
    have h3 := key b hb (fun e => fill_not_left x b _ s hs ((hall b).2 hb) hn e h1)
    omega
  · have hcu := (hall c).1 hc
    refine ⟨c, hcu, h1, (fill_on c _ s hc hn x h1).1, fun d hd hod => ?_⟩
    by_cases e : lv d ≤ lv c
    · exact e
    · exfalso
      have h2 := all_deep hu hl d c hd hcu (by omega) x h1 hod
      have h3 := key d hd (fun e2 => e (by rw [fill_once x d c _ s hs ((hall d).2 hd) hc hn e2 h1]; omega))
      omega

/-- One level: what is left of those whose bucket is i. -/
theorem level_left (anc : Int → Nat) (ix : Int → Nat) (i : Nat) : ∀ (bs : List Int) (s : (Int → List Int) × List Int), (∀ b ∈ bs, ∀ x, on b x = (anc x == ix b)) → (bs.map ix).Nodup →
    ((fill on z bs s).2.countP fun x => anc x == i) = (s.2.countP fun x => anc x == i) - (if i ∈ bs.map ix then z else 0)
  | [], s, _, _ => by simp [fill]
  | b :: bs, s, ho, hn => by
    have hn' := hn
    rw [List.map_cons, List.nodup_cons] at hn
    have ih := level_left anc ix i bs (step on z s b) (fun c hc => ho c (by simp [hc])) hn.2
    have e : fill on z (b :: bs) s = fill on z bs (step on z s b) := rfl
    have hb : on b = fun x => anc x == ix b := funext (ho b (by simp))
    rw [e, ih]
    have e3 : (step on z s b).2 = (pick (on b) z s.2).2 := rfl
    rw [e3]
    by_cases hi : ix b = i
    · subst hi
      have := pick_left (p := on b) s.2 z
      rw [hb] at this ⊢
      rw [this, if_neg hn.1, if_pos (by simp)]
      omega
    · have := pick_other (p := on b) (fun x => anc x == i) (fun x hx => by
        rw [hb] at hx
        simp only [beq_iff_eq] at hx
        rw [hx]
        simpa using hi) s.2 z
      rw [this]
      rw [List.map_cons]
      by_cases hm : i ∈ bs.map ix
      · rw [if_pos hm, if_pos (List.mem_cons_of_mem _ hm)]
      · rw [if_neg hm, if_neg (fun e => (List.mem_cons.1 e).elim (fun e => hi e.symm) hm)]

/-- Larger buckets never leave more. -/
theorem more (anc : Nat → Int → Nat) (ix : Int → Nat) (hanc : ∀ l x, l + 1 ≤ h → anc l x = anc (l + 1) x / 2) (h0 : ∀ x, anc 0 x = 0) (hu : u.Nodup) (ho : ∀ b ∈ u, ∀ x, on b x = (anc (lv b) x == ix b)) (hix : ∀ b ∈ u, ∀ c ∈ u, lv b = lv c → ix b = ix c → b = c) (f g : Int → List Int) (l : List Int) (z z' : Nat) (hz : z ≤ z') :
    (fill on z' (ordTo lv u h (h + 1)) (f, l)).2.length ≤ (fill on z (ordTo lv u h (h + 1)) (g, l)).2.length := by
  have key : ∀ k, k ≤ h + 1 → ∀ m, m + k ≤ h + 1 → ∀ i, ((fill on z' (ordTo lv u h k) (f, l)).2.countP fun x => anc m x == i) ≤ ((fill on z (ordTo lv u h k) (g, l)).2.countP fun x => anc m x == i) := by
    intro k
    induction k with
    | zero => intro _ m _ i; exact Nat.le_refl _
    | succ k ih =>
      intro hk m hm i
      -- the level itself
      have lev : ∀ i, ((fill on z' (ordTo lv u h (k + 1)) (f, l)).2.countP fun x => anc (h - k) x == i) ≤ ((fill on z (ordTo lv u h (k + 1)) (g, l)).2.countP fun x => anc (h - k) x == i) := by
        intro i
        have hb : ∀ b ∈ u.filter (fun b => decide (lv b + k = h)), ∀ x, on b x = (anc (h - k) x == ix b) := by
          intro b hb x
          have := List.mem_filter.1 hb
          simp only [decide_eq_true_eq] at this
          rw [ho b this.1 x, show lv b = h - k by omega]
        have hn : ((u.filter fun b => decide (lv b + k = h)).map ix).Nodup := by
          have hf : (u.filter fun b => decide (lv b + k = h)).Nodup := hu.sublist List.filter_sublist
          refine List.Pairwise.map ix (R := fun a b => a ≠ b ∧ a ∈ u.filter (fun b => decide (lv b + k = h)) ∧ b ∈ u.filter (fun b => decide (lv b + k = h))) ?_ ?_
          · rintro a b ⟨h1, h2, h3⟩ e
            have m1 := List.mem_filter.1 h2
            have m2 := List.mem_filter.1 h3
            simp only [decide_eq_true_eq] at m1 m2
            exact h1 (hix a m1.1 b m2.1 (by omega) e)
          · exact List.Pairwise.imp_of_mem (fun ha hb e => ⟨e, ha, hb⟩) hf
        show ((fill on z' (ordTo lv u h k ++ _) (f, l)).2.countP _) ≤ ((fill on z (ordTo lv u h k ++ _) (g, l)).2.countP _)
        rw [fill_append, fill_append, level_left (anc (h - k)) ix i _ _ hb hn, level_left (anc (h - k)) ix i _ _ hb hn]
        have := ih (by omega) (h - k) (by omega) i
        split <;> omega
      -- and above
      have up : ∀ d, d ≤ h - k → ∀ i, ((fill on z' (ordTo lv u h (k + 1)) (f, l)).2.countP fun x => anc (h - k - d) x == i) ≤ ((fill on z (ordTo lv u h (k + 1)) (g, l)).2.countP fun x => anc (h - k - d) x == i) := by
        intro d
        induction d with
        | zero => exact fun _ => lev
        | succ d ihd =>
          intro hd i
          have split : ∀ (r : List Int), (r.countP fun x => anc (h - k - (d + 1)) x == i) = (r.countP fun x => anc (h - k - d) x == 2 * i) + (r.countP fun x => anc (h - k - d) x == 2 * i + 1) := by
            intro r
            induction r with
            | nil => simp
            | cons x r ihr =>
              simp only [List.countP_cons, ihr]
              have e := hanc (h - k - (d + 1)) x (by omega)
              rw [show h - k - (d + 1) + 1 = h - k - d by omega] at e
              rw [e]
              simp only [beq_iff_eq]
              by_cases e1 : anc (h - k - d) x = 2 * i
              · rw [if_pos (show anc (h - k - d) x / 2 = i by omega), if_pos e1, if_neg (by omega)]
                omega
              · by_cases e2 : anc (h - k - d) x = 2 * i + 1
                · rw [if_pos (show anc (h - k - d) x / 2 = i by omega), if_neg e1, if_pos e2]
                  omega
                · rw [if_neg (show ¬ anc (h - k - d) x / 2 = i by omega), if_neg e1, if_neg e2]
                  omega
          rw [split, split]
          have a1 := ihd (by omega) (2 * i)
          have a2 := ihd (by omega) (2 * i + 1)
          omega
      have := up (h - k - m) (by omega) i
      rwa [show h - k - (h - k - m) = m by omega] at this
  have := key (h + 1) (Nat.le_refl _) 0 (by omega) 0
  rw [List.countP_eq_length.2 (fun x _ => by simp [h0]), List.countP_eq_length.2 (fun x _ => by simp [h0])] at this
  exact this
end

end Go.Proofs.Ytkaohjlnlgennaa.ev
