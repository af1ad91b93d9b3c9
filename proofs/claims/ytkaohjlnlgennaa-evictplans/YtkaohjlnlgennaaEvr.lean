/- Who goes where: buckets of one level in whatever order; from the greatest number on. Plain lists. -/
import Derived.Test.YtkaohjlnlgennaaEvt
namespace Go.Proofs.Ytkaohjlnlgennaa.ev
open Go.Lib Go.Proofs.Ytkaohjlnlgennaa.tm
set_option linter.unusedVariables false
set_option linter.unusedSimpArgs false

/-- Two of whom none holds with the other. -/
theorem pick_swap {p q : Int → Bool} (hpq : ∀ x, p x = true → q x = false) : ∀ (l : List Int) (y z : Nat), (pick q z (pick p y l).2).1 = (pick q z l).1 ∧ (pick p y (pick q z l).2).1 = (pick p y l).1 ∧ (pick q z (pick p y l).2).2 = (pick p y (pick q z l).2).2
  | [], y, z => by cases y <;> cases z <;> simp [pick]
  | x :: l, 0, z => by
    simp [pick_zero]
  | x :: l, y + 1, 0 => by
    simp [pick_zero]
  | x :: l, y + 1, z + 1 => by
    by_cases hp : p x = true
    · have hq := hpq x hp
      obtain ⟨a, b, c⟩ := pick_swap hpq l y (z + 1)
      simp only [pick, hp, hq, if_true, Bool.false_eq_true, if_false]
      exact ⟨a, by rw [b], c⟩
    · have hp' : p x = false := by simpa using hp
      by_cases hq : q x = true
      · obtain ⟨a, b, c⟩ := pick_swap hpq l (y + 1) z
        simp only [pick, hp', hq, if_true, Bool.false_eq_true, if_false]
        exact ⟨by rw [a], b, c⟩
      · have hq' : q x = false := by simpa using hq
        obtain ⟨a, b, c⟩ := pick_swap hpq l (y + 1) (z + 1)
        simp only [pick, hp', hq', Bool.false_eq_true, if_false]
        exact ⟨a, b, by rw [c]⟩

section
variable {on : Int → Int → Bool} {z : Nat}

theorem step_swap {b c : Int} (hne : b ≠ c) (hd : ∀ x, on b x = true → on c x = false) (s) : step on z (step on z s b) c = step on z (step on z s c) b := by
  obtain ⟨h1, h2, h3⟩ := pick_swap hd s.2 z z
  unfold step
  refine Prod.ext (funext fun d => ?_) h3
  show (if d = c then (pick (on c) z (pick (on b) z s.2).2).1 else if d = b then _ else _) = (if d = b then (pick (on b) z (pick (on c) z s.2).2).1 else if d = c then _ else _)
  rw [h1, h2]
  by_cases e1 : d = c
  · rw [if_pos e1, if_neg (fun e => hne (e.symm.trans e1)), if_pos e1]
  · rw [if_neg e1, if_neg e1]

theorem fill_move (b : Int) : ∀ (bs : List Int) (s), (∀ c ∈ bs, b ≠ c ∧ ∀ x, on b x = true → on c x = false) → fill on z (bs ++ [b]) s = fill on z (b :: bs) s
  | [], s, _ => rfl
  | c :: bs, s, h => by
    have ih := fill_move b bs (step on z s c) fun d hd => h d (by simp [hd])
    show fill on z (bs ++ [b]) (step on z s c) = fill on z bs (step on z (step on z s b) c)
    rw [ih, step_swap (h c (by simp)).1 (h c (by simp)).2]
    rfl

theorem fill_reverse : ∀ (bs : List Int) (s), bs.Pairwise (fun b c => b ≠ c ∧ ∀ x, on b x = true → on c x = false) → fill on z bs.reverse s = fill on z bs s
  | [], s, _ => rfl
  | b :: bs, s, h => by
    obtain ⟨h1, h2⟩ := List.pairwise_cons.1 h
    rw [List.reverse_cons, fill_move b bs.reverse s fun c hc => h1 c (List.mem_reverse.1 hc)]
    exact fill_reverse bs (step on z s b) h2

variable {lv : Int → Nat}

theorem levels (h k : Nat) : ∀ (u : List Int), u.Pairwise (fun a b => lv a ≤ lv b) → u.filter (fun b => decide (h < lv b + (k + 1))) = u.filter (fun b => decide (lv b + k = h)) ++ u.filter (fun b => decide (h < lv b + k))
  | [], _ => rfl
  | a :: u, hu => by
    obtain ⟨h1, h2⟩ := List.pairwise_cons.1 hu
    have ih := levels h k u h2
    rcases Nat.lt_trichotomy (lv a + k) h with e | e | e
    · rw [List.filter_cons_of_neg (by simp; omega), List.filter_cons_of_neg (by simp; omega), List.filter_cons_of_neg (by simp; omega), ih]
    · rw [List.filter_cons_of_pos (by simp; omega), List.filter_cons_of_pos (by simp; omega), List.filter_cons_of_neg (by simp; omega), ih]
      rfl
    · have e0 : u.filter (fun b => decide (lv b + k = h)) = [] := List.filter_eq_nil_iff.2 fun b hb => by
        have := h1 b hb
        simp
        omega
      rw [e0] at ih
      rw [List.filter_cons_of_pos (by simp; omega), List.filter_cons_of_neg (by simp; omega), List.filter_cons_of_pos (by simp; omega), ih, e0]
      rfl

/-- From the last one on is the deepest level first. -/
theorem fill_back (u : List Int) (h : Nat) (hm : u.Pairwise (fun a b => lv a ≤ lv b)) (hd : u.Pairwise (fun b c => lv b = lv c → b ≠ c ∧ ∀ x, on b x = true → on c x = false)) (hl : ∀ b ∈ u, lv b ≤ h) (s) :
    fill on z u.reverse s = fill on z (ordTo lv u h (h + 1)) s := by
  have key : ∀ k, fill on z (u.filter (fun b => decide (h < lv b + k))).reverse s = fill on z (ordTo lv u h k) s := by
    intro k
    induction k with
    | zero =>
      have e0 : u.filter (fun b => decide (h < lv b + 0)) = [] := List.filter_eq_nil_iff.2 fun b hb => by
        have := hl b hb
        simp
        omega
      rw [e0]
      rfl
    | succ k ih =>
      rw [levels h k u hm, List.reverse_append, fill_append, ih]
      show _ = fill on z (ordTo lv u h k ++ _) s
      rw [fill_append, fill_reverse]
      refine List.Pairwise.imp_of_mem ?_ (hd.filter _)
      intro a b ha hb e
      have m1 := (List.mem_filter.1 ha).2
      have m2 := (List.mem_filter.1 hb).2
      simp only [decide_eq_true_eq] at m1 m2
      exact e (by omega)
  have e1 : u.filter (fun b => decide (h < lv b + (h + 1))) = u := List.filter_eq_self.2 fun b hb => by simp; omega
  rw [← key (h + 1), e1]
end

theorem lvl_mono_small : ∀ a : Fin 127, ∀ b : Fin 127, a.val < b.val → lvl a.val ≤ lvl b.val := by decide +kernel

section
variable {h z : Int} {ls : List Int} {its : List (Int × Int)}

/-- The plan, from the greatest number on. -/
theorem plan_back (hp : mayP h z ls its) : fill (onP h its) z.toNat (uni h ls).reverse (fun _ => [], sortI (ids its)) = planF h z ls its := by
  obtain ⟨r1, r2, r3, r4⟩ := plan_ready hp
  obtain ⟨p1, p2, p3, p4, p5⟩ := hp
  obtain ⟨H, rfl⟩ : ∃ H : Nat, h = H := ⟨h.toNat, by have := (okH_iff h).1 p1; omega⟩
  have hH : H ≤ 6 := by have := (okH_iff (H : Int)).1 p1; omega
  have hp6 := (pow_le6 H hH).2
  unfold planF
  refine fill_back _ _ ?_ ?_ r2 _
  · refine List.Pairwise.imp_of_mem ?_ (uni_rising (H : Int) ls)
    intro a b ha hb hlt
    obtain ⟨H', A, e, rfl, _, hA, _⟩ := uni_nat p3 ha
    obtain ⟨H'', B, e', rfl, _, hB, _⟩ := uni_nat p3 hb
    have q := lvl_mono_small ⟨A, by have : H' = H := by omega
                                    subst this; omega⟩ ⟨B, by have : H'' = H := by omega
                                                              subst this; omega⟩ (by simp; omega)
    simpa [lvB] using q
  · refine List.Pairwise.imp_of_mem ?_ (uni_rising (H : Int) ls)
    intro a b ha hb hlt e
    refine ⟨by omega, fun x hx => ?_⟩
    obtain ⟨H', A, e1, rfl, _, hA, _⟩ := uni_nat p3 ha
    obtain ⟨H'', B, e2, rfl, _, hB, _⟩ := uni_nat p3 hb
    obtain rfl : H = H' := by omega
    obtain rfl : H = H'' := by omega
    obtain ⟨H3, L, e3, eL, _, hL, _⟩ := okL_nat (leafOf_ok p1 p4 p5 x)
    obtain rfl : H = H3 := by omega
    unfold onP at hx ⊢
    rw [eL] at hx ⊢
    rw [on_nat hH hA hL] at hx
    rw [on_nat hH hB hL]
    simp only [lvB, Int.toNat_natCast] at e
    rw [e] at hx
    have q1 := low_le hH hA
    have q2 := low_le hH hB
    rw [e] at q1
    simp only [beq_iff_eq] at hx
    simp only [beq_eq_false_iff_ne]
    omega
end

end Go.Proofs.Ytkaohjlnlgennaa.ev
