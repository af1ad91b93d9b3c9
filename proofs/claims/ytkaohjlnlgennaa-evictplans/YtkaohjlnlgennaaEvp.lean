/- Who goes where, over plain lists: buckets filled one by one, each with up to z of those that are left and on it. -/
import Derived.WalkKit
namespace Go.Proofs.Ytkaohjlnlgennaa.ev
set_option linter.unusedVariables false
set_option linter.unusedSimpArgs false

/-- Up to z of those of whom p holds; the rest. -/
def pick (p : Int → Bool) : Nat → List Int → List Int × List Int
  | _, [] => ([], [])
  | 0, x :: xs => ([], x :: xs)
  | z + 1, x :: xs => if p x then (x :: (pick p z xs).1, (pick p z xs).2) else ((pick p (z + 1) xs).1, x :: (pick p (z + 1) xs).2)

section
variable {p : Int → Bool}

theorem pick_zero (l : List Int) : pick p 0 l = ([], l) := by cases l <;> rfl

theorem pick_snoc (x : Int) : ∀ (l : List Int) (z : Nat), pick p z (l ++ [x]) = if (pick p z l).1.length < z ∧ p x = true then ((pick p z l).1 ++ [x], (pick p z l).2) else ((pick p z l).1, (pick p z l).2 ++ [x])
  | [], 0 => by simp [pick]
  | [], z + 1 => by
    cases h : p x <;> simp [pick, h]
  | y :: l, 0 => by simp [pick]
  | y :: l, z + 1 => by
    cases h : p y
    · simp only [List.cons_append, pick, h, Bool.false_eq_true, if_false]
      rw [pick_snoc x l (z + 1)]
      split <;> simp
    · simp only [List.cons_append, pick, h, if_true]
      rw [pick_snoc x l z]
      simp only [List.length_cons, Nat.add_lt_add_iff_right]
      split <;> simp

theorem pick_len : ∀ (l : List Int) (z : Nat), (pick p z l).1.length ≤ z
  | [], z => by cases z <;> simp [pick]
  | _ :: _, 0 => by simp [pick]
  | y :: l, z + 1 => by
    have h1 := pick_len l z
    have h2 := pick_len l (z + 1)
    simp only [pick]
    split <;> simp <;> omega

theorem pick_sum : ∀ (l : List Int) (z : Nat), (pick p z l).1.length + (pick p z l).2.length = l.length
  | [], z => by cases z <;> simp [pick]
  | _ :: _, 0 => by simp [pick]
  | y :: l, z + 1 => by
    have h1 := pick_sum l z
    have h2 := pick_sum l (z + 1)
    simp only [pick]
    split <;> simp <;> omega

theorem pick_count (q : Int → Bool) : ∀ (l : List Int) (z : Nat), (pick p z l).1.countP q + (pick p z l).2.countP q = l.countP q
  | [], z => by cases z <;> simp [pick]
  | _ :: _, 0 => by simp [pick]
  | y :: l, z + 1 => by
    have h1 := pick_count q l z
    have h2 := pick_count q l (z + 1)
    simp only [pick]
    split <;> simp only [List.countP_cons] <;> omega

theorem pick_mem (x : Int) : ∀ (l : List Int) (z : Nat), x ∈ l ↔ x ∈ (pick p z l).1 ∨ x ∈ (pick p z l).2
  | [], z => by cases z <;> simp [pick]
  | _ :: _, 0 => by simp [pick]
  | y :: l, z + 1 => by
    have h1 := pick_mem x l z
    have h2 := pick_mem x l (z + 1)
    simp only [pick]
    split
    · simp only [List.mem_cons, h1, or_assoc]
    · simp only [List.mem_cons, h2]
      constructor
      · rintro (h | h | h)
        · exact .inr (.inl h)
        · exact .inl h
        · exact .inr (.inr h)
      · rintro (h | h | h)
        · exact .inr (.inl h)
        · exact .inl h
        · exact .inr (.inr h)

theorem pick_on (x : Int) : ∀ (l : List Int) (z : Nat), x ∈ (pick p z l).1 → p x = true
  | [], z => by cases z <;> simp [pick]
  | _ :: _, 0 => by simp [pick]
  | y :: l, z + 1 => by
    have h1 := pick_on x l z
    have h2 := pick_on x l (z + 1)
    simp only [pick]
    split
    · rename_i h
      simp only [List.mem_cons]
      rintro (rfl | h')
      · exact h
      · exact h1 h'
    · exact h2

/-- Who is left although p holds of it found no room. -/
theorem pick_full (x : Int) : ∀ (l : List Int) (z : Nat), x ∈ (pick p z l).2 → p x = true → (pick p z l).1.length = z
  | [], z => by cases z <;> simp [pick]
  | _ :: _, 0 => by simp [pick]
  | y :: l, z + 1 => by
    have h1 := pick_full x l z
    have h2 := pick_full x l (z + 1)
    simp only [pick]
    split
    · intro h3 h4
      simp only [List.length_cons, h1 h3 h4]
    · rename_i h
      simp only [List.mem_cons]
      rintro (rfl | h3) h4
      · exact absurd h4 h
      · exact h2 h3 h4

theorem pick_sub : ∀ (l : List Int) (z : Nat), (pick p z l).1.Sublist l ∧ (pick p z l).2.Sublist l
  | [], z => by cases z <;> simp [pick]
  | _ :: _, 0 => by simp [pick]
  | y :: l, z + 1 => by
    have h1 := pick_sub l z
    have h2 := pick_sub l (z + 1)
    simp only [pick]
    split
    · exact ⟨h1.1.cons_cons y, h1.2.cons y⟩
    · exact ⟨h2.1.cons y, h2.2.cons_cons y⟩

theorem pick_apart (x : Int) : ∀ (l : List Int) (z : Nat), l.Nodup → x ∈ (pick p z l).1 → ¬ x ∈ (pick p z l).2
  | [], z => by cases z <;> simp [pick]
  | _ :: _, 0 => by simp [pick]
  | y :: l, z + 1 => by
    intro hn
    obtain ⟨hy, hn⟩ := List.nodup_cons.1 hn
    have h1 := pick_apart x l z hn
    have h2 := pick_apart x l (z + 1) hn
    have m1 := pick_mem (p := p) y l z
    have m2 := pick_mem (p := p) y l (z + 1)
    simp only [pick]
    split
    · simp only [List.mem_cons]
      rintro (rfl | h3)
      · exact fun h => hy (m1.2 (.inr h))
      · exact h1 h3
    · simp only [List.mem_cons]
      rintro h3 (rfl | h4)
      · exact hy (m2.2 (.inl h3))
      · exact h2 h3 h4

/-- How many of those of whom p holds are left. -/
theorem pick_left (l : List Int) (z : Nat) : (pick p z l).2.countP p = l.countP p - z := by
  have h := pick_count (p := p) p l z
  have h1 : (pick p z l).1.countP p = (pick p z l).1.length := List.countP_eq_length.2 fun x hx => pick_on x l z hx
  have h2 := pick_len (p := p) l z
  by_cases e : (pick p z l).2.countP p = 0
  · omega
  · obtain ⟨x, hx, hp⟩ := List.countP_pos_iff.1 (Nat.pos_of_ne_zero e)
    have := pick_full x l z hx hp
    omega

/-- Those apart from p are not touched. -/
theorem pick_other (q : Int → Bool) (hq : ∀ x, p x = true → q x = false) (l : List Int) (z : Nat) : (pick p z l).2.countP q = l.countP q := by
  have h := pick_count (p := p) q l z
  have : (pick p z l).1.countP q = 0 := List.countP_eq_zero.2 fun x hx => by rw [hq x (pick_on x l z hx)]; simp
  omega
end

theorem nodup_mid {α : Type} {a : α} {l1 l2 : List α} (h : (l1 ++ a :: l2).Nodup) : a ∉ l2 := by
  simp [List.nodup_append] at h
  exact h.2.1.1

/-- A bucket is filled. -/
def step (on : Int → Int → Bool) (z : Nat) (s : (Int → List Int) × List Int) (b : Int) : (Int → List Int) × List Int :=
  (fun c => if c = b then (pick (on b) z s.2).1 else s.1 c, (pick (on b) z s.2).2)

/-- All buckets of a list, one by one. -/
def fill (on : Int → Int → Bool) (z : Nat) (ord : List Int) (s : (Int → List Int) × List Int) : (Int → List Int) × List Int := ord.foldl (step on z) s

section
variable {on : Int → Int → Bool} {z : Nat}

theorem fill_snoc (ord : List Int) (b : Int) (s) : fill on z (ord ++ [b]) s = step on z (fill on z ord s) b := by simp [fill]

theorem fill_append (o1 o2 : List Int) (s) : fill on z (o1 ++ o2) s = fill on z o2 (fill on z o1 s) := by simp [fill]

theorem fill_keep (c : Int) : ∀ (ord : List Int) (s), c ∉ ord → (fill on z ord s).1 c = s.1 c
  | [], s, _ => rfl
  | b :: ord, s, h => by
    have h' : c ≠ b ∧ c ∉ ord := by simpa using h
    show (fill on z ord (step on z s b)).1 c = _
    rw [fill_keep c ord _ h'.2]
    simp only [step, if_neg h'.1]

theorem fill_sub (ord : List Int) : ∀ s, (fill on z ord s).2.Sublist s.2 := by
  induction ord with
  | nil => exact fun s => List.Sublist.refl _
  | cons b ord ih => exact fun s => (ih _).trans (pick_sub s.2 z).2

/-- What a bucket of the list holds was left when it was filled. -/
theorem fill_at (b : Int) (o1 o2 : List Int) (s) (h : b ∉ o2) : (fill on z (o1 ++ b :: o2) s).1 b = (pick (on b) z (fill on z o1 s).2).1 := by
  rw [fill_append]
  show (fill on z o2 (step on z (fill on z o1 s) b)).1 b = _
  rw [fill_keep b o2 _ h]
  simp [step]

theorem fill_len (b : Int) (ord : List Int) (s) (h : b ∈ ord) (hn : ord.Nodup) : ((fill on z ord s).1 b).length ≤ z := by
  obtain ⟨o1, o2, rfl⟩ := List.append_of_mem h
  rw [fill_at b o1 o2 s (by simp [List.nodup_append] at hn; exact hn.2.1.1)]
  exact pick_len _ _

theorem fill_on (b : Int) (ord : List Int) (s) (h : b ∈ ord) (hn : ord.Nodup) (x : Int) (hx : x ∈ (fill on z ord s).1 b) : on b x = true ∧ x ∈ s.2 := by
  obtain ⟨o1, o2, rfl⟩ := List.append_of_mem h
  rw [fill_at b o1 o2 s (by simp [List.nodup_append] at hn; exact hn.2.1.1)] at hx
  exact ⟨pick_on x _ _ hx, (fill_sub o1 s).subset ((pick_sub _ _).1.subset hx)⟩

/-- Who is left when b is through, although it is on b: b is full. -/
theorem fill_full (b : Int) (o1 o2 : List Int) (s) (hn : b ∉ o2) (x : Int) (hx : x ∈ (fill on z (o1 ++ [b]) s).2) (ho : on b x = true) : ((fill on z (o1 ++ b :: o2) s).1 b).length = z := by
  rw [fill_at b o1 o2 s hn]
  rw [fill_snoc] at hx
  exact pick_full x _ _ hx ho

theorem fill_left (b : Int) (ord : List Int) (s) (h : b ∈ ord) (hn : ord.Nodup) (x : Int) (hx : x ∈ (fill on z ord s).2) (ho : on b x = true) : ((fill on z ord s).1 b).length = z := by
  obtain ⟨o1, o2, rfl⟩ := List.append_of_mem h
  refine fill_full b o1 o2 s (by simp [List.nodup_append] at hn; exact hn.2.1.1) x ?_ ho
  rw [show o1 ++ b :: o2 = (o1 ++ [b]) ++ o2 by simp, fill_append] at hx
  exact (fill_sub o2 _).subset hx

/-- Who lies behind b although it is on b: b is full. -/
theorem fill_deep (b c : Int) (o1 o2 o3 : List Int) (s) (hn : (o1 ++ b :: o2 ++ c :: o3).Nodup) (x : Int) (hx : x ∈ (fill on z (o1 ++ b :: o2 ++ c :: o3) s).1 c) (ho : on b x = true) : ((fill on z (o1 ++ b :: o2 ++ c :: o3) s).1 b).length = z := by
  rw [fill_at c (o1 ++ b :: o2) o3 s (nodup_mid hn)] at hx
  have hx2 := (pick_sub _ _).1.subset hx
  rw [show o1 ++ b :: o2 = (o1 ++ [b]) ++ o2 by simp, fill_append] at hx2
  rw [show o1 ++ b :: o2 ++ c :: o3 = o1 ++ b :: (o2 ++ c :: o3) by simp] at hn ⊢
  exact fill_full b o1 _ s (nodup_mid hn) x ((fill_sub o2 _).subset hx2) ho

theorem fill_somewhere (x : Int) : ∀ (ord : List Int) (s), ord.Nodup → x ∈ s.2 → x ∈ (fill on z ord s).2 ∨ ∃ b ∈ ord, x ∈ (fill on z ord s).1 b
  | [], s, _, h => .inl h
  | b :: ord, s, hn, h => by
    obtain ⟨hb, hn⟩ := List.nodup_cons.1 hn
    rcases (pick_mem (p := on b) x s.2 z).1 h with h1 | h1
    · refine .inr ⟨b, by simp, ?_⟩
      show x ∈ (fill on z ord (step on z s b)).1 b
      rw [fill_keep b ord _ hb]
      simpa [step] using h1
    · rcases fill_somewhere x ord (step on z s b) hn h1 with h2 | ⟨c, hc, h2⟩
      · exact .inl h2
      · exact .inr ⟨c, by simp [hc], h2⟩

/-- .. and nowhere twice. -/
theorem fill_gone (x : Int) (b : Int) (o1 o2 : List Int) (s) (hs : s.2.Nodup) (h : b ∉ o2) (hx : x ∈ (fill on z (o1 ++ b :: o2) s).1 b) : x ∉ (fill on z (o1 ++ [b]) s).2 := by
  rw [fill_at b o1 o2 s h] at hx
  rw [fill_snoc]
  exact pick_apart x _ _ (hs.sublist (fill_sub o1 s)) hx

theorem fill_not_left (x : Int) (b : Int) (ord : List Int) (s) (hs : s.2.Nodup) (h : b ∈ ord) (hn : ord.Nodup) (hx : x ∈ (fill on z ord s).1 b) : x ∉ (fill on z ord s).2 := by
  obtain ⟨o1, o2, rfl⟩ := List.append_of_mem h
  have := fill_gone x b o1 o2 s hs (by simp [List.nodup_append] at hn; exact hn.2.1.1) hx
  intro hh
  rw [show o1 ++ b :: o2 = (o1 ++ [b]) ++ o2 by simp, fill_append] at hh
  exact this ((fill_sub o2 _).subset hh)

theorem fill_once (x : Int) (b c : Int) (ord : List Int) (s) (hs : s.2.Nodup) (hb : b ∈ ord) (hc : c ∈ ord) (hn : ord.Nodup) (hx : x ∈ (fill on z ord s).1 b) (hy : x ∈ (fill on z ord s).1 c) : b = c := by
  by_cases e : b = c
  · exact e
  exfalso
  -- one of them comes first
  have key : ∀ (b c : Int) (o1 o2 : List Int), ord = o1 ++ b :: o2 → c ∈ o2 → x ∈ (fill on z ord s).1 b → x ∈ (fill on z ord s).1 c → False := by
    rintro b c o1 o2 rfl hc hx hy
    have hb2 : b ∉ o2 := by simp [List.nodup_append] at hn; exact hn.2.1.1
    have hg := fill_gone x b o1 o2 s hs hb2 hx
    obtain ⟨o3, o4, rfl⟩ := List.append_of_mem hc
    have hc2 : c ∉ o4 := by
      simp [List.nodup_append] at hn
      exact hn.2.1.2.2.1.1
    rw [show o1 ++ b :: (o3 ++ c :: o4) = (o1 ++ [b] ++ o3) ++ c :: o4 by simp, fill_at c _ o4 s hc2] at hy
    have := (pick_sub _ _).1.subset hy
    rw [fill_append] at this
    exact hg ((fill_sub o3 _).subset this)
  obtain ⟨o1, o2, ho⟩ := List.append_of_mem hb
  rw [ho] at hc
  rcases List.mem_append.1 hc with h1 | h1
  · obtain ⟨o3, o4, rfl⟩ := List.append_of_mem h1
    exact key c b o3 (o4 ++ b :: o2) (by rw [ho]; simp) (by simp) hy hx
  · rcases List.mem_cons.1 h1 with h2 | h2
    · exact e h2.symm
    · exact key b c o1 o2 ho h2 hx hy

theorem fill_sum : ∀ (ord : List Int) (s), ord.Nodup → (ord.map fun b => ((fill on z ord s).1 b).length).sum + (fill on z ord s).2.length = s.2.length
  | [], s, _ => by simp [fill]
  | b :: ord, s, hn => by
    obtain ⟨hb, hn⟩ := List.nodup_cons.1 hn
    have ih := fill_sum ord (step on z s b) hn
    have e : fill on z (b :: ord) s = fill on z ord (step on z s b) := rfl
    rw [e, List.map_cons, List.sum_cons, fill_keep b ord _ hb]
    have h1 := pick_sum (p := on b) s.2 z
    have e2 : ((step on z s b).1 b) = (pick (on b) z s.2).1 := by simp [step]
    have e3 : (step on z s b).2 = (pick (on b) z s.2).2 := rfl
    rw [e2]
    rw [e3] at ih
    omega
end

end Go.Proofs.Ytkaohjlnlgennaa.ev
