/- The program's lengths. -/
import Derived.Test.YtfhpdcimdeilpaaDf
namespace Go.Proofs.Ytfhpdcimdeilpaa.st
open Go.ChangeShapes Go.WideShapes Go.ChangeAt Go.RowKit Go.Proofs.Ytfhpdcimdeilpaa.hp
set_option linter.unusedVariables false
set_option linter.unusedSimpArgs false

/-- A Lay's box. -/
abbrev laO (h z b r rd wr s p q t : Nat) (tv : Value) : Obj := .cells #[.int .i64 (h : Int), .int .i64 (z : Int), .int .i64 (b : Int), .int .i64 (r : Int), .int .i64 (rd : Int), .int .i64 (wr : Int), .int .i64 (s : Int), .int .i64 (p : Int), .int .i64 (q : Int), .int .i64 (t : Int), tv] 28

section
variable {h z b r rd wr s p q t g : Nat} {tv : Value}
theorem la_cells {W : World} (hb : W.heap[g]? = some (laO h z b r rd wr s p q t tv)) :
    W.cell? ⟨g, 0, none⟩ = some (.int .i64 (h : Int)) ∧ W.cell? ⟨g, 1, none⟩ = some (.int .i64 (z : Int)) ∧ W.cell? ⟨g, 2, none⟩ = some (.int .i64 (b : Int)) ∧ W.cell? ⟨g, 3, none⟩ = some (.int .i64 (r : Int)) ∧ W.cell? ⟨g, 4, none⟩ = some (.int .i64 (rd : Int)) ∧ W.cell? ⟨g, 5, none⟩ = some (.int .i64 (wr : Int)) ∧ W.cell? ⟨g, 6, none⟩ = some (.int .i64 (s : Int)) ∧ W.cell? ⟨g, 7, none⟩ = some (.int .i64 (p : Int)) ∧ W.cell? ⟨g, 8, none⟩ = some (.int .i64 (q : Int)) ∧ W.cell? ⟨g, 9, none⟩ = some (.int .i64 (t : Int)) ∧ W.cell? ⟨g, 10, none⟩ = some tv :=
  ⟨(row_cell hb 0 _ rfl).1, (row_cell hb 1 _ rfl).1, (row_cell hb 2 _ rfl).1, (row_cell hb 3 _ rfl).1, (row_cell hb 4 _ rfl).1, (row_cell hb 5 _ rfl).1, (row_cell hb 6 _ rfl).1, (row_cell hb 7 _ rfl).1, (row_cell hb 8 _ rfl).1, (row_cell hb 9 _ rfl).1, (row_cell hb 10 _ rfl).1⟩

theorem la_facts {pK : World → Prop} {w1 : World} (hpK : ∀ w', pK w' ↔ Chg no w1 w') (hb : w1.heap[g]? = some (laO h z b r rd wr s p q t tv)) :
    (∀ x : far.InC pK, x.w.cell? ⟨g, 0, none⟩ = some (.int .i64 (h : Int))) ∧ (∀ x : far.InC pK, x.w.cell? ⟨g, 1, none⟩ = some (.int .i64 (z : Int))) ∧ (∀ x : far.InC pK, x.w.cell? ⟨g, 2, none⟩ = some (.int .i64 (b : Int))) ∧ (∀ x : far.InC pK, x.w.cell? ⟨g, 3, none⟩ = some (.int .i64 (r : Int))) ∧ (∀ x : far.InC pK, x.w.cell? ⟨g, 4, none⟩ = some (.int .i64 (rd : Int))) ∧ (∀ x : far.InC pK, x.w.cell? ⟨g, 5, none⟩ = some (.int .i64 (wr : Int))) ∧ (∀ x : far.InC pK, x.w.cell? ⟨g, 6, none⟩ = some (.int .i64 (s : Int))) ∧ (∀ x : far.InC pK, x.w.cell? ⟨g, 7, none⟩ = some (.int .i64 (p : Int))) ∧ (∀ x : far.InC pK, x.w.cell? ⟨g, 8, none⟩ = some (.int .i64 (q : Int))) ∧ (∀ x : far.InC pK, x.w.cell? ⟨g, 9, none⟩ = some (.int .i64 (t : Int))) ∧ (∀ x : far.InC pK, x.w.cell? ⟨g, 10, none⟩ = some tv) ∧ Nonempty (far.InC pK) :=
  have xB : ∀ x : far.InC pK, x.w.heap[g]? = some (laO h z b r rd wr s p q t tv) := fun x => ((hpK _).1 x.h).heap hb id
  ⟨fun x => (row_cell (xB x) 0 _ rfl).1, fun x => (row_cell (xB x) 1 _ rfl).1, fun x => (row_cell (xB x) 2 _ rfl).1, fun x => (row_cell (xB x) 3 _ rfl).1, fun x => (row_cell (xB x) 4 _ rfl).1, fun x => (row_cell (xB x) 5 _ rfl).1, fun x => (row_cell (xB x) 6 _ rfl).1, fun x => (row_cell (xB x) 7 _ rfl).1, fun x => (row_cell (xB x) 8 _ rfl).1, fun x => (row_cell (xB x) 9 _ rfl).1, fun x => (row_cell (xB x) 10 _ rfl).1, ⟨⟨w1, (hpK _).2 (Chg.refl no w1)⟩⟩⟩
end

theorem within_any (w : World) (a b c : Int) : Calls Try.prog 52 #[.int .i64 a, .int .i64 b, .int .i64 c] w fun e w' => e = .returned (.bool (decide (a ≤ b ∧ b ≤ c))) ∧ w' = w := by
  by_cases h1 : a ≤ b
  · by_cases h2 : b ≤ c
    · go_enter Try.func52, Try.ntmps52
      go_wp2
      go_ret
      exact ⟨ret_bool (by simp; omega), rfl⟩
    · go_enter Try.func52, Try.ntmps52
      go_wp2
      go_ret
      exact ⟨ret_bool (by simp; omega), rfl⟩
  · go_enter Try.func52, Try.ntmps52
    go_wp2
    go_ret
    exact ⟨ret_bool (by simp; omega), rfl⟩

theorem within_t (w : World) {a b c : Int} (h : a ≤ b ∧ b ≤ c) : Calls Try.prog 52 #[.int .i64 a, .int .i64 b, .int .i64 c] w fun e w' => e = .returned (.bool true) ∧ w' = w := by
  have := within_any w a b c
  rwa [decide_eq_true h] at this

theorem within_f (w : World) {a b c : Int} (h : ¬ (a ≤ b ∧ b ≤ c)) : Calls Try.prog 52 #[.int .i64 a, .int .i64 b, .int .i64 c] w fun e w' => e = .returned (.bool false) ∧ w' = w := by
  have := within_any w a b c
  rwa [decide_eq_false h] at this

theorem mayh_any (w : World) (h : Int) : Calls Try.prog 51 #[.int .i64 h] w fun e w' => e = .returned (.bool (decide (0 ≤ h ∧ h ≤ 6))) ∧ w' = w := by
  by_cases h1 : 0 ≤ h
  · by_cases h2 : h ≤ 6
    · go_enter Try.func51, Try.ntmps51
      go_wp2
      go_ret
      exact ⟨ret_bool (by simp; omega), rfl⟩
    · go_enter Try.func51, Try.ntmps51
      go_wp2
      go_ret
      exact ⟨ret_bool (by simp; omega), rfl⟩
  · go_enter Try.func51, Try.ntmps51
    go_wp2
    go_ret
    exact ⟨ret_bool (by simp; omega), rfl⟩

theorem size_any (w : World) (z : Nat) (h1 : 1 ≤ z) (h2 : z ≤ 4) : Calls Try.prog 80 #[.int .i64 (z : Int)] w fun e w' => e = .returned (.bool true) ∧ w' = w := by
  have i1 : (1 : Int) ≤ z := by omega
  have i2 : (z : Int) ≤ 4 := by omega
  go_enter Try.func80, Try.ntmps80
  go_wp2
  go_ret
  exact ⟨rfl, rfl⟩

theorem buckets_any (w : World) (h : Nat) (hh : h ≤ 6) : Calls Try.prog 60 #[.int .i64 h] w fun e w' => e = .returned (.int .i64 ((2 ^ (h + 1) - 1 : Nat) : Int)) ∧ w' = w := by
  have H : Hid (∀ W, Calls Try.prog 51 #[.int .i64 h] W fun e w' => e = .returned (.bool true) ∧ w' = W) := fun W => by
    have := mayh_any W (h : Int)
    rw [decide_eq_true ⟨by omega, by omega⟩] at this
    exact this
  have hi : (h : Int) ≤ 6 := by omega
  have : h = 0 ∨ h = 1 ∨ h = 2 ∨ h = 3 ∨ h = 4 ∨ h = 5 ∨ h = 6 := by omega
  rcases this with rfl | rfl | rfl | rfl | rfl | rfl | rfl
  all_goals
    go_enter Try.func60, Try.ntmps60
    go_wp2_with fail
    refine (H.out _).mono ?_
    rintro e w2 ⟨rfl, hw⟩
    subst hw
    go_wp2
    go_ret
    exact ⟨rfl, rfl⟩

theorem length_any (w : World) (K : Cf) (hK : okC K) : Calls Try.prog 56 #[.int .i64 (K.z : Int)] w fun e w' => e = .returned (.int .i64 ((payN K : Nat) : Int)) ∧ w' = w := by
  have hz := hK.z
  have H := size_any w K.z hz.1 hz.2
  have he : (K.z : Int) * 38 = ((payN K : Nat) : Int) := by unfold payN; omega
  obtain ⟨P, hP⟩ : ∃ P, payN K = P := ⟨_, rfl⟩
  obtain ⟨z, hz'⟩ : ∃ z, K.z = z := ⟨_, rfl⟩
  rw [hP] at he ⊢
  rw [hz'] at he H hz ⊢
  have i2 : (z : Int) ≤ 4 := by omega
  clear hP hz' hz
  go_enter Try.func56, Try.ntmps56
  go_wp2_with fail
  refine H.mono ?_
  rintro e w2 ⟨rfl, hw⟩
  subst hw
  go_wp2
  go_ret
  exact ⟨by first | rfl | exact ret_int he, rfl⟩

theorem pay_any (w : World) (K : Cf) (hK : okC K) (a : Option Addr) (n c : Nat) : Calls Try.prog 12 #[cfgV K (.slice a n c)] w fun e w' => e = .returned (.int .i64 ((payN K : Nat) : Int)) ∧ Chg no w w' := by
  have H : Hid (∀ W, _) := fun W => length_any W K hK
  obtain ⟨P, hP⟩ : ∃ P, payN K = P := ⟨_, rfl⟩
  simp only [hP] at H ⊢
  obtain ⟨h, z, b, r, rd, wr, s, p, q, t⟩ := K
  try simp only at *
  clear hK hP
  go_enter Try.func12, Try.ntmps12
  go_wp2_with fail
  refine (H.out _).mono ?_
  rintro e w2 ⟨rfl, rfl⟩
  go_wp2
  go_ret
  exact ⟨rfl, (Chg.refl no w).alloc _⟩

theorem cell_any (w : World) (K : Cf) (hK : okC K) (a : Option Addr) (n c : Nat) : Calls Try.prog 14 #[cfgV K (.slice a n c)] w fun e w' => e = .returned (.int .i64 ((12 + payN K : Nat) : Int)) ∧ Chg no w w' := by
  have H : Hid (∀ W, _) := fun W => pay_any W K hK a n c
  have hp := (pay_le hK).2
  obtain ⟨P, hP⟩ : ∃ P, payN K = P := ⟨_, rfl⟩
  rw [hP] at hp
  simp only [hP] at H ⊢
  have hpi : (P : Int) ≤ 152 := by omega
  obtain ⟨h, z, b, r, rd, wr, s, p, q, t⟩ := K
  try simp only at *
  clear hK hP
  go_enter Try.func14, Try.ntmps14
  go_wp2_with fail
  refine (H.out _).mono ?_
  rintro e w2 ⟨rfl, k2⟩
  go_wp2
  go_ret
  exact ⟨ret_int (by omega), ((Chg.refl no w).alloc _).then k2⟩

theorem slots_any (w : World) (K : Cf) (hK : okC K) (a : Option Addr) (n c : Nat) : Calls Try.prog 16 #[cfgV K (.slice a n c)] w fun e w' => e = .returned (.int .i64 ((slotsN K : Nat) : Int)) ∧ Chg no w w' := by
  obtain ⟨h1, h2, _⟩ := slots_le hK
  have hi : (K.r : Int) * (K.rd : Int) ≤ 32 := by
    have : ((K.r * K.rd : Nat) : Int) ≤ 32 := by omega
    rwa [Int.natCast_mul] at this
  have hi0 : 0 ≤ (K.r : Int) * (K.rd : Int) := Int.mul_nonneg (by omega) (by omega)
  have hw := hK.wr
  have he : (K.r : Int) * (K.rd : Int) + (K.wr : Int) = ((slotsN K : Nat) : Int) := by unfold slotsN; rw [Int.natCast_add, Int.natCast_mul]
  obtain ⟨h, z, b, r, rd, wr, s, p, q, t⟩ := K
  try simp only at *
  clear hK
  go_enter Try.func16, Try.ntmps16
  go_wp2
  go_ret
  exact ⟨ret_int he, (Chg.refl no w).alloc _⟩

theorem batch_any (w : World) (K : Cf) (a : Option Addr) (n c : Nat) (i : Int) : Calls Try.prog 18 #[cfgV K (.slice a n c), .int .i64 i] w fun e w' => e = .returned (.int .i64 (batchI K i)) ∧ Chg no w w' := by
  have hc : i < 0 ∨ (0 ≤ i ∧ (K.r : Int) < i) ∨ (0 ≤ i ∧ i = (K.r : Int)) ∨ (0 ≤ i ∧ i < (K.r : Int)) := by omega
  obtain ⟨R, hR⟩ : ∃ R, batchI K i = R := ⟨_, rfl⟩
  rw [hR]
  unfold batchI at hR
  obtain ⟨h, z, b, r, rd, wr, s, p, q, t⟩ := K
  try simp only at *
  rcases hc with h1 | ⟨h1, h2⟩ | ⟨h1, h2⟩ | ⟨h1, h2⟩
  · rw [if_neg (by omega), if_neg (by omega)] at hR
    subst hR
    go_enter Try.func18, Try.ntmps18
    go_wp2
    go_ret
    exact ⟨rfl, (Chg.refl no w).alloc _⟩
  · rw [if_neg (by omega), if_neg (by omega)] at hR
    subst hR
    have h3 : ¬ i < 0 := by omega
    go_enter Try.func18, Try.ntmps18
    go_wp2
    go_ret
    exact ⟨rfl, (Chg.refl no w).alloc _⟩
  · rw [if_neg (by omega), if_pos h2] at hR
    subst hR
    have h3 : ¬ i < 0 := by omega
    have h4 : ¬ (r : Int) < i := by omega
    go_enter Try.func18, Try.ntmps18
    go_wp2
    go_ret
    exact ⟨rfl, (Chg.refl no w).alloc _⟩
  · rw [if_pos ⟨h1, h2⟩] at hR
    subst hR
    have h3 : ¬ i < 0 := by omega
    have h4 : ¬ (r : Int) < i := by omega
    have h5 : ¬ i = (r : Int) := by omega
    go_enter Try.func18, Try.ntmps18
    go_wp2
    go_ret
    exact ⟨rfl, (Chg.refl no w).alloc _⟩

theorem logl_any (w : World) (K : Cf) (a : Option Addr) (n c : Nat) : Calls Try.prog 20 #[cfgV K (.slice a n c)] w fun e w' => e = .returned (.int .i64 12) ∧ Chg no w w' := by
  obtain ⟨h, z, b, r, rd, wr, s, p, q, t⟩ := K
  go_enter Try.func20, Try.ntmps20
  go_wp2
  go_ret
  exact ⟨rfl, (Chg.refl no w).alloc _⟩

theorem stash_any (w : World) (K : Cf) (hK : okC K) (a : Option Addr) (n c : Nat) : Calls Try.prog 57 #[cfgV K (.slice a n c)] w fun e w' => e = .returned (.int .i64 ((stashN K : Nat) : Int)) ∧ Chg no w w' := by
  have hs := hK.s
  have hsi : (K.s : Int) ≤ 64 := by omega
  have he : 1 + (K.s : Int) * 38 = ((stashN K : Nat) : Int) := by unfold stashN; omega
  obtain ⟨h, z, b, r, rd, wr, s, p, q, t⟩ := K
  try simp only at *
  clear hK
  go_enter Try.func57, Try.ntmps57
  go_wp2
  go_ret
  exact ⟨by first | rfl | exact ret_int he, (Chg.refl no w).alloc _⟩

theorem clogl_any (w : World) (K : Cf) (hK : okC K) (a : Option Addr) (n c : Nat) : Calls Try.prog 25 #[cfgV K (.slice a n c)] w fun e w' => e = .returned (.int .i64 ((clogN K : Nat) : Int)) ∧ Chg no w w' := by
  have ht := hK.t
  have hti : (K.t : Int) ≤ 8 := by omega
  have he : 6 + (K.t : Int) * 42 = ((clogN K : Nat) : Int) := by unfold clogN; omega
  obtain ⟨h, z, b, r, rd, wr, s, p, q, t⟩ := K
  try simp only at *
  clear hK
  go_enter Try.func25, Try.ntmps25
  go_wp2
  go_ret
  exact ⟨by first | rfl | exact ret_int he, (Chg.refl no w).alloc _⟩

theorem delta_any (w : World) (K : Cf) (hK : okC K) (a : Option Addr) (n c : Nat) : Calls Try.prog 21 #[cfgV K (.slice a n c)] w fun e w' => e = .returned (.int .i64 ((deltaN K : Nat) : Int)) ∧ Chg no w w' := by
  obtain ⟨_, hS, _⟩ := slots_le hK
  have H1 : Hid (∀ W, _) := fun W => slots_any W K hK a n c
  have H2 : Hid (∀ W, _) := fun W => stash_any W K hK a n c
  have hw := hK.wr
  have hs := hK.s
  have hst : stashN K ≤ 2433 := by unfold stashN; omega
  have he : Hid (11 + (1 + ((slotsN K : Nat) : Int) * 1) + (1 + ((slotsN K : Nat) : Int) * 6) + (1 + (K.wr : Int) * 12) + ((stashN K : Nat) : Int) = ((deltaN K : Nat) : Int)) := by show _ = _; unfold deltaN; omega
  obtain ⟨A, hA⟩ : ∃ A, slotsN K = A := ⟨_, rfl⟩
  obtain ⟨B, hB⟩ : ∃ B, stashN K = B := ⟨_, rfl⟩
  obtain ⟨R, hR⟩ : ∃ R, deltaN K = R := ⟨_, rfl⟩
  rw [hA] at hS
  rw [hB] at hst
  simp only [hA, hB, hR] at H1 H2 he ⊢
  have hAi : (A : Int) ≤ 40 := by omega
  have hBi : (B : Int) ≤ 2433 := by omega
  have hwi : (K.wr : Int) ≤ 8 := by omega
  obtain ⟨h, z, b, r, rd, wr, s, p, q, t⟩ := K
  try simp only at *
  clear hK hA hB hR hw hs
  go_enter Try.func21, Try.ntmps21
  go_wp2_with fail
  obtain ⟨w1, hw1⟩ : ∃ w1, w.alloc (laO h z b r rd wr s p q t (.slice a n c)) = w1 := ⟨_, rfl⟩
  have HB : Hid (w1.heap[w.heap.size]? = some (laO h z b r rd wr s p q t (.slice a n c))) := by show _ = _; rw [← hw1]; exact heap_alloc_new w _
  have HK : Hid (Chg no w w1) := by rw [← hw1]; exact (Chg.refl no w).alloc _
  rw [hw1]
  obtain ⟨g, hg⟩ : ∃ g, w.heap.size = g := ⟨_, rfl⟩
  rw [hg] at HB ⊢
  clear hw1 hg
  refine (H1.out _).mono ?_
  rintro e w2 ⟨rfl, k2⟩
  have HB2 : Hid (w2.heap[g]? = some (laO h z b r rd wr s p q t (.slice a n c))) := (k2).heap HB.out id
  have HK2 : Hid (Chg no w w2) := HK.out.then (k2)
  clear HB HK
  have HB : Hid (w2.heap[g]? = some (laO h z b r rd wr s p q t (.slice a n c))) := HB2.out
  have HK : Hid (Chg no w w2) := HK2.out
  clear HB2 HK2
  clear k2
  obtain ⟨c0, c1, c2, c3, c4, c5, c6, c7, c8, c9, c10⟩ := la_cells HB.out
  go_wp2_with fail
  refine (H1.out _).mono ?_
  rintro e w3 ⟨rfl, k3⟩
  clear c0 c1 c2 c3 c4 c5 c6 c7 c8 c9 c10
  have HB2 : Hid (w3.heap[g]? = some (laO h z b r rd wr s p q t (.slice a n c))) := (k3).heap HB.out id
  have HK2 : Hid (Chg no w w3) := HK.out.then (k3)
  clear HB HK
  have HB : Hid (w3.heap[g]? = some (laO h z b r rd wr s p q t (.slice a n c))) := HB2.out
  have HK : Hid (Chg no w w3) := HK2.out
  clear HB2 HK2
  clear k3
  obtain ⟨c0, c1, c2, c3, c4, c5, c6, c7, c8, c9, c10⟩ := la_cells HB.out
  go_wp2_with fail
  refine (H2.out _).mono ?_
  rintro e w4 ⟨rfl, k4⟩
  go_wp2
  go_ret
  exact ⟨ret_int (by have := he.out; omega), HK.out.then k4⟩

theorem cells2_any (w : World) (len pay : Nat) (h1 : 1 ≤ len) (h2 : 1 ≤ pay) (h3 : len ≤ 1000000) (h4 : pay ≤ 1000000) : Calls Try.prog 59 #[.int .i64 len, .int .i64 pay] w fun e w' => e = .returned (.int .i64 ((clN len pay : Nat) : Int)) ∧ w' = w := by
  have he : clN len pay = (len - 1) / pay + 1 := by
    unfold clN
    rw [show len + pay - 1 = (len - 1) + pay by omega, Nat.add_div_right _ h2]
  have i1 : ¬ (len : Int) < 1 := by omega
  have i2 : ¬ (pay : Int) < 1 := by omega
  have i3 : (len : Int) ≤ 1000000 := by omega
  have i4 : (pay : Int) ≤ 1000000 := by omega
  have i5 : (pay : Int) ≠ 0 := by omega
  have hq : ((len : Int) - 1).tdiv (pay : Int) = (((len - 1) / pay : Nat) : Int) := by
    rw [show (len : Int) - 1 = ((len - 1 : Nat) : Int) by omega]
    rfl
  have hql : (len - 1) / pay ≤ len - 1 := Nat.div_le_self _ _
  obtain ⟨q, hq'⟩ : ∃ q, (len - 1) / pay = q := ⟨_, rfl⟩
  obtain ⟨R, hR⟩ : ∃ R, clN len pay = R := ⟨_, rfl⟩
  rw [hR] at he ⊢
  rw [hq'] at he hq hql
  have hqi : (q : Int) ≤ 1000000 := by omega
  have hR1 : Hid ((q : Int) + 1 = (R : Int)) := by show _ = _; omega
  clear hq' hR h1 h2 h3 h4 he hql
  go_enter Try.func59, Try.ntmps59
  go_wp2
  go_ret
  exact ⟨ret_int hR1.out, rfl⟩

theorem full_any (w : World) (K : Cf) (hK : okC K) (a : Option Addr) (n c : Nat) : Calls Try.prog 23 #[cfgV K (.slice a n c)] w fun e w' => e = .returned (.int .i64 ((fullN K : Nat) : Int)) ∧ Chg no w w' := by
  obtain ⟨hb1, hb2⟩ := buckets_le hK
  have H1 : Hid (∀ W, Calls Try.prog 60 #[.int .i64 (K.h : Int)] W fun e w' => e = .returned (.int .i64 ((bucketsN K : Nat) : Int)) ∧ w' = W) := fun W => buckets_any W K.h hK.h
  have H3 : Hid (∀ W, Calls Try.prog 59 #[.int .i64 ((bucketsN K : Nat) : Int), .int .i64 8] W fun e w' => e = .returned (.int .i64 (((bucketsN K + 7) / 8 : Nat) : Int)) ∧ w' = W) := fun W => cells2_any W (bucketsN K) 8 hb1 (by omega) (by omega) (by omega)
  have H2 : Hid (∀ W, _) := fun W => stash_any W K hK a n c
  have hw := hK.b
  have hs := hK.s
  have hst : stashN K ≤ 2433 := by unfold stashN; omega
  have he : Hid (11 + (K.b : Int) * 5 + (1 + (K.b : Int) * 11) + (((bucketsN K + 7) / 8 : Nat) : Int) + ((stashN K : Nat) : Int) = ((fullN K : Nat) : Int)) := by show _ = _; unfold fullN; omega
  have hd : (bucketsN K + 7) / 8 ≤ 16 := by omega
  obtain ⟨A, hA⟩ : ∃ A, bucketsN K = A := ⟨_, rfl⟩
  obtain ⟨B, hB⟩ : ∃ B, stashN K = B := ⟨_, rfl⟩
  obtain ⟨R, hR⟩ : ∃ R, fullN K = R := ⟨_, rfl⟩
  rw [hA] at hb1 hb2 hd
  rw [hB] at hst
  simp only [hA, hB, hR] at H1 H2 H3 he ⊢
  obtain ⟨D, hD⟩ : ∃ D, (A + 7) / 8 = D := ⟨_, rfl⟩
  rw [hD] at hd
  simp only [hD] at H3 he
  have hAi : (A : Int) ≤ 127 := by omega
  have hDi : (D : Int) ≤ 16 := by omega
  have hBi : (B : Int) ≤ 2433 := by omega
  have hwi : (K.b : Int) ≤ 64 := by omega
  obtain ⟨h, z, b, r, rd, wr, s, p, q, t⟩ := K
  try simp only at *
  clear hK hA hB hR hw hs hD
  go_enter Try.func23, Try.ntmps23
  go_wp2_with fail
  obtain ⟨w1, hw1⟩ : ∃ w1, w.alloc (laO h z b r rd wr s p q t (.slice a n c)) = w1 := ⟨_, rfl⟩
  have HB : Hid (w1.heap[w.heap.size]? = some (laO h z b r rd wr s p q t (.slice a n c))) := by show _ = _; rw [← hw1]; exact heap_alloc_new w _
  have HK : Hid (Chg no w w1) := by rw [← hw1]; exact (Chg.refl no w).alloc _
  rw [hw1]
  obtain ⟨g, hg⟩ : ∃ g, w.heap.size = g := ⟨_, rfl⟩
  rw [hg] at HB ⊢
  clear hw1 hg
  refine (H1.out _).mono ?_
  rintro e w2 ⟨rfl, hw⟩
  subst hw
  obtain ⟨c0, c1, c2, c3, c4, c5, c6, c7, c8, c9, c10⟩ := la_cells HB.out
  go_wp2_with fail
  refine (H3.out _).mono ?_
  rintro e w3 ⟨rfl, hw⟩
  subst hw
  go_wp2_with fail
  refine (H2.out _).mono ?_
  rintro e w4 ⟨rfl, k4⟩
  go_wp2
  go_ret
  exact ⟨ret_int (by have := he.out; omega), HK.out.then k4⟩

end Go.Proofs.Ytfhpdcimdeilpaa.st
