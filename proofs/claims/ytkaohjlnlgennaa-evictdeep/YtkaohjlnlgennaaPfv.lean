/- Who lies where, told of the fills that Plan answers: for the laws. -/
import Derived.Test.YtkaohjlnlgennaaPlh
namespace Go.Proofs.Ytkaohjlnlgennaa.st
open Go.ChangeShapes Go.WideShapes Go.ChangeAt Go.RowKit Go.Proofs.Ytkaohjlnlgennaa.hp Go.Proofs.Ytkaohjlnlgennaa.tm Go.Proofs.Ytkaohjlnlgennaa.ev
set_option linter.unusedVariables false
set_option linter.unusedSimpArgs false

theorem abs_map {xs : List FV} {h z : Int} {ls : List Int} {its : List (Int × Int)} (hm : mayB h z ls its = true) (he : abs xs = (planA h z ls its).1) : abs xs = (uni h ls).map fun b => (b, (planF h z ls its).1 b) := by
  rw [planA_yes hm] at he
  exact he

theorem fv_get {xs : List FV} {h z : Int} {ls : List Int} {its : List (Int × Int)} (hm : mayB h z ls its = true) (he : abs xs = (planA h z ls its).1) (y : FV) (hy : y ∈ xs) : y.b ∈ uni h ls ∧ y.d = (planF h z ls its).1 y.b := by
  have hy' : y.fl ∈ abs xs := List.mem_map.2 ⟨y, hy, rfl⟩
  rw [abs_map hm he] at hy'
  obtain ⟨b, hb, e⟩ := List.mem_map.1 hy'
  unfold FV.fl at e
  simp only [Prod.mk.injEq] at e
  obtain ⟨e1, e2⟩ := e
  subst e1
  exact ⟨hb, e2.symm⟩

theorem fv_mem {xs : List FV} {h z : Int} {ls : List Int} {its : List (Int × Int)} (hm : mayB h z ls its = true) (he : abs xs = (planA h z ls its).1) (b : Int) (hb : b ∈ uni h ls) : ∃ y ∈ xs, y.b = b ∧ y.d = (planF h z ls its).1 b := by
  have : (b, (planF h z ls its).1 b) ∈ abs xs := by
    rw [abs_map hm he]
    exact List.mem_map.2 ⟨b, hb, rfl⟩
  obtain ⟨y, hy, e⟩ := List.mem_map.1 this
  unfold FV.fl at e
  simp only [Prod.mk.injEq] at e
  exact ⟨y, hy, e.1, e.2⟩

theorem getD_mem {α : Type} {xs : List α} {d : α} {k : Nat} (hk : k < xs.length) : xs.getD k d ∈ xs := by
  rw [List.getD_eq_getElem?_getD, List.getElem?_eq_getElem hk]
  exact List.getElem_mem hk

/-- How many fills hold the id. -/
def cnt (xs : List FV) (x : Int) : Nat := xs.countP fun y => y.d.contains x

theorem cnt_once {xs : List FV} {h z : Int} {ls : List Int} {its : List (Int × Int)} (hm : mayB h z ls its = true) (he : abs xs = (planA h z ls its).1) (x : Int) (hx : x ∈ ids its) : cnt xs x + (if (planA h z ls its).2.contains x = true then 1 else 0) = 1 := by
  have h1 := plan_once (mayB_mayP hm) x hx
  have e : cnt xs x = (uni h ls).countP fun b => ((planF h z ls its).1 b).contains x := by
    have e1 : cnt xs x = (abs xs).countP fun p => p.2.contains x := by
      unfold cnt abs
      rw [List.countP_map]
      rfl
    rw [e1, abs_map hm he, List.countP_map]
    rfl
  rw [e, planA_yes hm]
  exact h1

theorem cnt_le (xs : List FV) (x : Int) (k : Nat) : cnt (xs.take k) x ≤ cnt xs x := by
  unfold cnt
  exact (List.take_sublist k xs).countP_le

theorem cnt_yes {xs : List FV} {x : Int} {k : Nat} (hk : k < xs.length) (hc : (xs.getD k dFV).d.contains x = true) : cnt (xs.take (k + 1)) x = cnt (xs.take k) x + 1 := by
  unfold cnt
  rw [take_next xs dFV k hk, List.countP_append, List.countP_singleton, if_pos hc]

theorem cnt_no {xs : List FV} {x : Int} {k : Nat} (hk : k < xs.length) (hc : (xs.getD k dFV).d.contains x = false) : cnt (xs.take (k + 1)) x = cnt (xs.take k) x := by
  unfold cnt
  rw [take_next xs dFV k hk, List.countP_append, List.countP_singleton, if_neg (by rw [hc]; decide)]
  rfl

/-- Two fills that hold the id are one. -/
theorem only {xs : List FV} {x : Int} (h1 : cnt xs x ≤ 1) (a b : FV) (ha : a ∈ xs) (hb : b ∈ xs) (hax : a.d.contains x = true) (hbx : b.d.contains x = true) : a = b := by
  unfold cnt at h1
  rw [List.countP_eq_length_filter] at h1
  have ma : a ∈ xs.filter fun y => y.d.contains x := List.mem_filter.2 ⟨ha, hax⟩
  have mb : b ∈ xs.filter fun y => y.d.contains x := List.mem_filter.2 ⟨hb, hbx⟩
  obtain ⟨L, hL⟩ : ∃ L, xs.filter (fun y => y.d.contains x) = L := ⟨_, rfl⟩
  rw [hL] at ma mb h1
  match L, h1 with
  | [], _ => simp at ma
  | [e], _ =>
    simp at ma mb
    rw [ma, mb]
  | e :: f :: l, h1 =>
    exfalso
    simp only [List.length_cons] at h1
    omega

theorem item_at {its : List (Int × Int)} (i : Nat) (hi : i < its.length) : its.getD i (0, 0) ∈ its ∧ (its.getD i (0, 0)).1 ∈ ids its := ⟨getD_mem hi, List.mem_map.2 ⟨_, getD_mem hi, rfl⟩⟩

theorem leaf_at {h z : Int} {ls : List Int} {its : List (Int × Int)} (hm : mayB h z ls its = true) (i : Nat) (hi : i < its.length) : leafOf its (its.getD i (0, 0)).1 = (its.getD i (0, 0)).2 :=
  leafOf_item its (mayB_iff.1 hm).2.2.2.2 _ (getD_mem hi)

/-- Who is in a fill has it on their path. -/
theorem on_at {xs : List FV} {h z : Int} {ls : List Int} {its : List (Int × Int)} (hm : mayB h z ls its = true) (he : abs xs = (planA h z ls its).1) (i : Nat) (hi : i < its.length) (y : FV) (hy : y ∈ xs) (hc : y.d.contains (its.getD i (0, 0)).1 = true) : onI h y.b (its.getD i (0, 0)).2 = true := by
  obtain ⟨hb, hd⟩ := fv_get hm he y hy
  rw [hd] at hc
  have := (plan_on (mayB_mayP hm) y.b hb _ (List.contains_iff_mem.1 hc)).1
  rw [leaf_at hm i hi] at this
  exact this

/-- Who is left finds each fill on their path full. -/
theorem full_at {xs : List FV} {h z : Int} {ls : List Int} {its : List (Int × Int)} (hm : mayB h z ls its = true) (he : abs xs = (planA h z ls its).1) (i : Nat) (hi : i < its.length) (hc : (planA h z ls its).2.contains (its.getD i (0, 0)).1 = true) (y : FV) (hy : y ∈ xs) (ho : onI h y.b (its.getD i (0, 0)).2 = true) : (y.d.length : Int) = z := by
  obtain ⟨hb, hd⟩ := fv_get hm he y hy
  rw [planA_yes hm] at hc
  have := plan_full (mayB_mayP hm) y.b hb _ (List.contains_iff_mem.1 hc) (by rw [leaf_at hm i hi]; exact ho)
  rw [hd]
  have := (mayB_iff.1 hm).2.1
  omega

theorem z_at {xs : List FV} {h z : Int} {ls : List Int} {its : List (Int × Int)} (hm : mayB h z ls its = true) (he : abs xs = (planA h z ls its).1) (y : FV) (hy : y ∈ xs) : (y.d.length : Int) ≤ z := by
  obtain ⟨hb, hd⟩ := fv_get hm he y hy
  have := plan_len (mayB_mayP hm) y.b hb
  have := (mayB_iff.1 hm).2.1
  rw [hd]
  omega

theorem b_at {xs : List FV} {h z : Int} {ls : List Int} {its : List (Int × Int)} (hm : mayB h z ls its = true) (he : abs xs = (planA h z ls its).1) (y : FV) (hy : y ∈ xs) : 0 ≤ y.b ∧ y.b ≤ 127 ∧ lvlI y.b = (lvB y.b : Int) := by
  obtain ⟨hb, hd⟩ := fv_get hm he y hy
  obtain ⟨H, B, _, e, hH, hB, _⟩ := uni_nat (mayB_iff.1 hm).2.2.1 hb
  have hp := (pow_le6 H hH).2
  have : ¬ y.b < 0 := by omega
  refine ⟨by omega, by omega, ?_⟩
  unfold lvlI lvB
  rw [if_neg this]

/-- Below where one lies, each fill on their path is full. -/
theorem deep_at {xs : List FV} {h z : Int} {ls : List Int} {its : List (Int × Int)} (hm : mayB h z ls its = true) (he : abs xs = (planA h z ls its).1) (i : Nat) (hi : i < its.length) (y u : FV) (hy : y ∈ xs) (hu : u ∈ xs) (hc : y.d.contains (its.getD i (0, 0)).1 = true) (hl : lvlI y.b < lvlI u.b) (ho : onI h u.b (its.getD i (0, 0)).2 = true) : (u.d.length : Int) = z := by
  obtain ⟨hb, hd⟩ := fv_get hm he y hy
  obtain ⟨hb', hd'⟩ := fv_get hm he u hu
  rw [(b_at hm he y hy).2.2, (b_at hm he u hu).2.2] at hl
  rw [hd] at hc
  have := plan_deep (mayB_mayP hm) u.b y.b hb' hb (by omega) _ (List.contains_iff_mem.1 hc) (by rw [leaf_at hm i hi]; exact ho)
  have := (mayB_iff.1 hm).2.1
  rw [hd']
  omega

/-- Where an id lies, by its level. -/
def atTo (xs : List FV) (x : Int) : Int := xs.foldl (fun a y => if y.d.contains x = true then lvlI y.b else a) (-1)

theorem atTo_yes {xs : List FV} {x : Int} {k : Nat} (hk : k < xs.length) (hc : (xs.getD k dFV).d.contains x = true) : atTo (xs.take (k + 1)) x = lvlI (xs.getD k dFV).b := by
  unfold atTo
  rw [take_next xs dFV k hk, List.foldl_append]
  simp only [List.foldl_cons, List.foldl_nil]
  rw [if_pos hc]

theorem atTo_no {xs : List FV} {x : Int} {k : Nat} (hk : k < xs.length) (hc : (xs.getD k dFV).d.contains x = false) : atTo (xs.take (k + 1)) x = atTo (xs.take k) x := by
  unfold atTo
  rw [take_next xs dFV k hk, List.foldl_append]
  simp only [List.foldl_cons, List.foldl_nil]
  rw [if_neg (by rw [hc]; decide)]

theorem foldl_at {x D : Int} : ∀ (xs : List FV) (a : Int), (∀ y ∈ xs, y.d.contains x = true → lvlI y.b = D) → (a = D ∨ ∃ y ∈ xs, y.d.contains x = true) → xs.foldl (fun a y => if y.d.contains x = true then lvlI y.b else a) a = D
  | [], a, _, h => by
    rcases h with h | ⟨y, hy, _⟩
    · exact h
    · simp at hy
  | e :: xs, a, h1, h => by
    simp only [List.foldl_cons]
    cases hc : e.d.contains x
    · rw [if_neg (by decide)]
      refine foldl_at xs a (fun y hy => h1 y (by simp [hy])) ?_
      rcases h with h | ⟨y, hy, hyc⟩
      · exact .inl h
      · rcases List.mem_cons.1 hy with rfl | hy
        · rw [hc] at hyc
          cases hyc
        · exact .inr ⟨y, hy, hyc⟩
    · rw [if_pos rfl]
      exact foldl_at xs _ (fun y hy => h1 y (by simp [hy])) (.inl (h1 e (by simp) hc))

theorem room_at {xs : List FV} {h : Int} {ls : List Int} {its : List (Int × Int)} (hm : mayB h 4 ls its = true) (he : abs xs = (planA h 4 ls its).1) (hl : ls ≠ []) (hz : its.length ≤ 4) (i : Nat) (hi : i < its.length) : atTo xs (its.getD i (0, 0)).1 = dpI h ls (its.getD i (0, 0)).2 ∧ 0 ≤ dpI h ls (its.getD i (0, 0)).2 := by
  obtain ⟨r1, r2⟩ := plan_room (mayB_mayP hm) hl (by simpa using hz)
  obtain ⟨c, hc, hx, hv⟩ := r1 _ (item_at i hi).2
  rw [leaf_at hm i hi] at hv
  obtain ⟨u, hu, e1, e2⟩ := fv_mem hm he c hc
  have huc : u.d.contains (its.getD i (0, 0)).1 = true := by rw [e2]; exact List.contains_iff_mem.2 hx
  have hone := cnt_once hm he _ (item_at i hi).2
  refine ⟨foldl_at xs (-1) (fun y hy hyc => ?_) (.inr ⟨u, hu, huc⟩), by omega⟩
  have := only (by omega) y u hy hu hyc huc
  rw [this, (b_at hm he u hu).2.2, e1]
  exact hv

theorem room_left {h : Int} {ls : List Int} {its : List (Int × Int)} (hm : mayB h 4 ls its = true) (hl : ls ≠ []) (hz : its.length ≤ 4) : (planA h 4 ls its).2 = [] := by
  rw [planA_yes hm]
  exact (plan_room (mayB_mayP hm) hl (by simpa using hz)).2

end Go.Proofs.Ytkaohjlnlgennaa.st
