/- Contracts of package nonce's small functions: within, May, Less, At, From, Left, Next; of the document's Most, May, Next; of plain. -/
import Derived.Test.YtmchjnmmeankgaaReaN
namespace Go.Proofs.Ytmchjnmmeankgaa.st
open Go.ChangeShapes Go.WideShapes Go.ChangeAt Go.RowKit Go.Proofs.Ytmchjnmmeankgaa.hp Go.Proofs.Ytmchjnmmeankgaa.dg
set_option linter.unusedVariables false

theorem within_any (w : World) (a b c : Int) : Calls Try.prog 42 #[.int .i64 a, .int .i64 b, .int .i64 c] w fun e w' => e = .returned (.bool (decide (b ≤ a ∧ a ≤ c))) ∧ w' = w := by
  have hc : a < b ∨ (b ≤ a ∧ a ≤ c) ∨ (b ≤ a ∧ c < a) := by omega
  rcases hc with h1 | ⟨h1, h2⟩ | ⟨h1, h2⟩
  all_goals
    go_enter Try.func42, Try.ntmps42
    go_wp2
    go_ret
    refine ⟨ret_bool ?_, rfl⟩
    simp
    try omega

/-- May the nonce be? -/
def may (g c : Int) : Bool := decide (0 ≤ g ∧ g ≤ 1099511627776 ∧ 0 ≤ c ∧ c ≤ 1099511627776)

/-- A nonce, as a value. -/
abbrev nv (g c : Int) : Value := .agg #[.int .i64 g, .int .i64 c]

theorem may_any (w : World) (g c : Int) : Calls Try.prog 31 #[nv g c] w fun e w' => e = .returned (.bool (may g c)) ∧ Chg no w w' := by
  have H1 := fun w => within_any w g 0 1099511627776
  have H2 := fun w => within_any w c 0 1099511627776
  by_cases hg : 0 ≤ g ∧ g ≤ 1099511627776
  · have e1 : may g c = decide (0 ≤ c ∧ c ≤ 1099511627776) := by
      unfold may
      apply decide_eq_decide.2
      omega
    simp only [decide_eq_true hg] at H1
    rw [e1]
    obtain ⟨B, hB⟩ : ∃ B, decide (0 ≤ c ∧ c ≤ 1099511627776) = B := ⟨_, rfl⟩
    simp only [hB] at H2 ⊢
    clear hB e1 hg
    go_enter Try.func31, Try.ntmps31
    go_wp2_with fail
    refine (H1 _).mono ?_
    rintro e w1 ⟨rfl, rfl⟩
    go_wp2_with fail
    refine (H2 _).mono ?_
    rintro e w1 ⟨rfl, rfl⟩
    go_wp2
    go_ret
    exact ⟨rfl, (Chg.refl no w).alloc _⟩
  · have e1 : may g c = false := by
      unfold may
      apply decide_eq_false
      omega
    simp only [decide_eq_false hg] at H1
    rw [e1]
    go_enter Try.func31, Try.ntmps31
    go_wp2_with fail
    refine (H1 _).mono ?_
    rintro e w1 ⟨rfl, rfl⟩
    go_wp2
    go_ret
    exact ⟨rfl, (Chg.refl no w).alloc _⟩

theorem plain_any (w : World) (g c : Int) : Calls Try.prog 15 #[nv g c] w fun e w' => e = .returned (nv g c) ∧ Chg no w w' := by
  go_enter Try.func15, Try.ntmps15
  go_wp2
  have hres : Try.f15.results = #[.cell 2 46] := by kernel_rfl
  refine bodyPost_ret (v := nv g c) ?_ rfl ⟨rfl, ?_⟩
  · simp only [results, hres]
    go_simp
  · exact ((Chg.refl no w).alloc _).alloc _

theorem rmost_any (w : World) : Calls Try.prog 44 #[] w fun e w' => e = .returned (.int .i64 1099511627776) ∧ w' = w := by
  go_enter Try.func44, Try.ntmps44
  go_wp2
  go_ret
  exact ⟨rfl, rfl⟩

/-- The Source at block p: the next one, and how far it goes. -/
def Src (w : World) (p : Nat) (t : TypeId) (g c m : Int) : Prop := w.heap[p]? = some (.cells #[.int .i64 g, .int .i64 c, .int .i64 m] t (0, 0))

theorem Src.cells {w : World} {p : Nat} {t : TypeId} {g c m : Int} (h : Src w p t g c m) : w.cell? ⟨p, 0, none⟩ = some (.int .i64 g) ∧ w.cell? ⟨p, 1, none⟩ = some (.int .i64 c) ∧ w.cell? ⟨p, 2, none⟩ = some (.int .i64 m) ∧
    w.frozen? ⟨p, 0, none⟩ = false ∧ w.frozen? ⟨p, 1, none⟩ = false ∧ w.frozen? ⟨p, 2, none⟩ = false := by
  unfold Src at h
  simp [World.cell?, World.frozen?, h]

theorem Src.lt {w : World} {p : Nat} {t : TypeId} {g c m : Int} (h : Src w p t g c m) : p < w.heap.size := lt_of_block h

theorem Src.chg {F : Nat → Prop} {w w' : World} {p : Nat} {t : TypeId} {g c m : Int} (h : Src w p t g c m) (k : Chg F w w') (hn : ¬ F p) : Src w' p t g c m := k.heap h hn

/-- Do they make a Source? -/
def fits (g c m : Int) : Bool := decide (1 ≤ g ∧ g ≤ 1099511627776 ∧ 0 ≤ c ∧ c ≤ m ∧ m ≤ 1099511627776)

end Go.Proofs.Ytmchjnmmeankgaa.st
