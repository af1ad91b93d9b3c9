/- Contracts of package nonce's small functions: within, May, Less, At, From, Left, Next; of the document's Most, May, Next; of plain. -/
import Derived.Test.YthmpkalalceapaaReaN
namespace Go.Proofs.Ythmpkalalceapaa.st
open Go.ChangeShapes Go.WideShapes Go.ChangeAt Go.RowKit Go.Proofs.Ythmpkalalceapaa.hp Go.Proofs.Ythmpkalalceapaa.dg
set_option linter.unusedVariables false

theorem within_any (w : World) (a b c : Int) : Calls Try.prog 26 #[.int .i64 a, .int .i64 b, .int .i64 c] w fun e w' => e = .returned (.bool (decide (b ≤ a ∧ a ≤ c))) ∧ w' = w := by
  have hc : a < b ∨ (b ≤ a ∧ a ≤ c) ∨ (b ≤ a ∧ c < a) := by omega
  rcases hc with h1 | ⟨h1, h2⟩ | ⟨h1, h2⟩
  all_goals
    go_enter Try.func26, Try.ntmps26
    go_wp2
    go_ret
    refine ⟨ret_bool ?_, rfl⟩
    simp
    try omega

/-- May the nonce be? -/
def may (g c : Int) : Bool := decide (0 ≤ g ∧ g ≤ 1099511627776 ∧ 0 ≤ c ∧ c ≤ 1099511627776)

/-- A nonce, as a value. -/
abbrev nv (g c : Int) : Value := .agg #[.int .i64 g, .int .i64 c]

theorem may_any (w : World) (g c : Int) : Calls Try.prog 11 #[nv g c] w fun e w' => e = .returned (.bool (may g c)) ∧ Chg no w w' := by
  have H1 := fun w => within_any w g 0 1099511627776
  have H2 := fun w => within_any w c 0 1099511627776
  by_cases hg : 0 ≤ g ∧ g ≤ 1099511627776
  · have e1 : may g c = decide (0 ≤ c ∧ c ≤ 1099511627776) := by
      unfold may
      apply decide_eq_decide.2
      omega
    simp only [decide_eq_true hg] at H1
    rw [e1]
    obtain ⟨B, hB⟩ : ∃ B, decide (0 ≤ c ∧ c ≤ 1099511627776) = B := ⟨_, rfl⟩
    simp only [hB] at H2 ⊢
    clear hB e1 hg
    go_enter Try.func11, Try.ntmps11
    go_wp2_with fail
    refine (H1 _).mono ?_
    rintro e w1 ⟨rfl, rfl⟩
    go_wp2_with fail
    refine (H2 _).mono ?_
    rintro e w1 ⟨rfl, rfl⟩
    go_wp2
    go_ret
    exact ⟨rfl, (Chg.refl no w).alloc _⟩
  · have e1 : may g c = false := by
      unfold may
      apply decide_eq_false
      omega
    simp only [decide_eq_false hg] at H1
    rw [e1]
    go_enter Try.func11, Try.ntmps11
    go_wp2_with fail
    refine (H1 _).mono ?_
    rintro e w1 ⟨rfl, rfl⟩
    go_wp2
    go_ret
    exact ⟨rfl, (Chg.refl no w).alloc _⟩

theorem plain_any (w : World) (g c : Int) : Calls Try.prog 12 #[nv g c] w fun e w' => e = .returned (nv g c) ∧ Chg no w w' := by
  go_enter Try.func12, Try.ntmps12
  go_wp2
  have hres : Try.f12.results = #[.cell 2 29] := by kernel_rfl
  refine bodyPost_ret (v := nv g c) ?_ rfl ⟨rfl, ?_⟩
  · simp only [results, hres]
    go_simp
  · exact ((Chg.refl no w).alloc _).alloc _

theorem less_any (w : World) (g c g' c' : Int) : Calls Try.prog 17 #[nv g c, nv g' c'] w fun e w' => e = .returned (.bool (decide (g < g' ∨ g = g' ∧ c < c'))) ∧ Chg no w w' := by
  by_cases hg : g = g'
  · subst hg
    go_enter Try.func17, Try.ntmps17
    go_wp2
    go_ret
    refine ⟨ret_bool ?_, ((Chg.refl no w).alloc _).alloc _⟩
    simp
  · have hg2 : (g == g') = false := by simpa using hg
    go_enter Try.func17, Try.ntmps17
    go_wp2
    go_ret
    refine ⟨ret_bool ?_, ((Chg.refl no w).alloc _).alloc _⟩
    simp [hg]

theorem rmost_any (w : World) : Calls Try.prog 27 #[] w fun e w' => e = .returned (.int .i64 1099511627776) ∧ w' = w := by
  go_enter Try.func27, Try.ntmps27
  go_wp2
  go_ret
  exact ⟨rfl, rfl⟩

/-- The Source at block p: the next one, and how far it goes. -/
def Src (w : World) (p : Nat) (t : TypeId) (g c m : Int) : Prop := w.heap[p]? = some (.cells #[.int .i64 g, .int .i64 c, .int .i64 m] t (0, 0))

theorem Src.cells {w : World} {p : Nat} {t : TypeId} {g c m : Int} (h : Src w p t g c m) : w.cell? ⟨p, 0, none⟩ = some (.int .i64 g) ∧ w.cell? ⟨p, 1, none⟩ = some (.int .i64 c) ∧ w.cell? ⟨p, 2, none⟩ = some (.int .i64 m) ∧
    w.frozen? ⟨p, 0, none⟩ = false ∧ w.frozen? ⟨p, 1, none⟩ = false ∧ w.frozen? ⟨p, 2, none⟩ = false := by
  unfold Src at h
  simp [World.cell?, World.frozen?, h]

theorem Src.lt {w : World} {p : Nat} {t : TypeId} {g c m : Int} (h : Src w p t g c m) : p < w.heap.size := lt_of_block h

theorem Src.chg {F : Nat → Prop} {w w' : World} {p : Nat} {t : TypeId} {g c m : Int} (h : Src w p t g c m) (k : Chg F w w') (hn : ¬ F p) : Src w' p t g c m := k.heap h hn

/-- Do they make a Source? -/
def fits (g c m : Int) : Bool := decide (1 ≤ g ∧ g ≤ 1099511627776 ∧ 0 ≤ c ∧ c ≤ m ∧ m ≤ 1099511627776)

theorem at_none (w : World) (g c m : Int) (h : fits g c m = false) : Calls Try.prog 18 #[.int .i64 g, .int .i64 c, .int .i64 m] w fun e w' => e = .returned (.pointer none) ∧ w' = w := by
  unfold fits at h
  have h := of_decide_eq_false h
  have H1 := fun w => within_any w g 1 1099511627776
  have H2 := fun w => within_any w m 0 1099511627776
  have H3 := fun w => within_any w c 0 m
  by_cases h1 : 1 ≤ g ∧ g ≤ 1099511627776
  · by_cases h2 : 0 ≤ m ∧ m ≤ 1099511627776
    · have h3 : ¬ (0 ≤ c ∧ c ≤ m) := by omega
      simp only [decide_eq_true h1] at H1
      simp only [decide_eq_true h2] at H2
      simp only [decide_eq_false h3] at H3
      clear h h1 h2 h3
      go_enter Try.func18, Try.ntmps18
      go_wp2_with fail
      refine (H1 _).mono ?_
      rintro e w1 ⟨rfl, rfl⟩
      go_wp2_with fail
      refine (H2 _).mono ?_
      rintro e w1 ⟨rfl, rfl⟩
      go_wp2_with fail
      refine (H3 _).mono ?_
      rintro e w1 ⟨rfl, rfl⟩
      go_wp2
      go_ret
      exact ⟨rfl, rfl⟩
    · simp only [decide_eq_true h1] at H1
      simp only [decide_eq_false h2] at H2
      clear h h1 h2
      go_enter Try.func18, Try.ntmps18
      go_wp2_with fail
      refine (H1 _).mono ?_
      rintro e w1 ⟨rfl, rfl⟩
      go_wp2_with fail
      refine (H2 _).mono ?_
      rintro e w1 ⟨rfl, rfl⟩
      go_wp2
      go_ret
      exact ⟨rfl, rfl⟩
  · simp only [decide_eq_false h1] at H1
    clear h h1
    go_enter Try.func18, Try.ntmps18
    go_wp2_with fail
    refine (H1 _).mono ?_
    rintro e w1 ⟨rfl, rfl⟩
    go_wp2
    go_ret
    exact ⟨rfl, rfl⟩

theorem at_some (w : World) (g c m : Int) (h : fits g c m = true) : Calls Try.prog 18 #[.int .i64 g, .int .i64 c, .int .i64 m] w fun e w' => e = .returned (.pointer (some ⟨w.heap.size, 0, none⟩)) ∧ Src w' w.heap.size 47 g c m ∧ Chg no w w' := by
  unfold fits at h
  have h := of_decide_eq_true h
  have H1 := fun w => within_any w g 1 1099511627776
  have H2 := fun w => within_any w m 0 1099511627776
  have H3 := fun w => within_any w c 0 m
  have h1 : 1 ≤ g ∧ g ≤ 1099511627776 := by omega
  have h2 : 0 ≤ m ∧ m ≤ 1099511627776 := by omega
  have h3 : 0 ≤ c ∧ c ≤ m := by omega
  simp only [decide_eq_true h1] at H1
  simp only [decide_eq_true h2] at H2
  simp only [decide_eq_true h3] at H3
  clear h h1 h2 h3
  go_enter Try.func18, Try.ntmps18
  go_wp2_with fail
  refine (H1 _).mono ?_
  rintro e w1 ⟨rfl, rfl⟩
  go_wp2_with fail
  refine (H2 _).mono ?_
  rintro e w1 ⟨rfl, rfl⟩
  go_wp2_with fail
  refine (H3 _).mono ?_
  rintro e w1 ⟨rfl, rfl⟩
  go_wp2
  go_ret
  exact ⟨rfl, heap_alloc_new _ _, (Chg.refl no _).alloc _⟩

theorem from_none (w : World) (g : Int) (h : ¬ (1 ≤ g ∧ g ≤ 1099511627776)) : Calls Try.prog 19 #[.int .i64 g] w fun e w' => e = .returned (.pointer none) ∧ w' = w := by
  have HA := at_none w g 0 1099511627776 (decide_eq_false (by omega))
  clear h
  go_enter Try.func19, Try.ntmps19
  go_wp2_with fail
  refine HA.mono ?_
  rintro e w1 ⟨rfl, rfl⟩
  go_wp2
  go_ret
  exact ⟨rfl, rfl⟩

theorem from_some (w : World) (g : Int) (h : 1 ≤ g ∧ g ≤ 1099511627776) : Calls Try.prog 19 #[.int .i64 g] w fun e w' => e = .returned (.pointer (some ⟨w.heap.size, 0, none⟩)) ∧ Src w' w.heap.size 47 g 0 1099511627776 ∧ Chg no w w' := by
  have HA := at_some w g 0 1099511627776 (decide_eq_true (by omega))
  clear h
  go_enter Try.func19, Try.ntmps19
  go_wp2_with fail
  refine HA.mono ?_
  rintro e w1 ⟨rfl, q1, q2⟩
  clear HA
  go_wp2
  go_ret
  exact ⟨rfl, q1, q2⟩

end Go.Proofs.Ythmpkalalceapaa.st
