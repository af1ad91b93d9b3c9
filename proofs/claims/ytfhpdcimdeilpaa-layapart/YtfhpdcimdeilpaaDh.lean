/- The document's May. -/
import Derived.Test.YtfhpdcimdeilpaaDg
namespace Go.Proofs.Ytfhpdcimdeilpaa.st
open Go.ChangeShapes Go.WideShapes Go.ChangeAt Go.RowKit Go.Proofs.Ytfhpdcimdeilpaa.hp
set_option linter.unusedVariables false
set_option linter.unusedSimpArgs false

/-- A configuration that came in. -/
structure Ic where
  h : Int
  z : Int
  b : Int
  r : Int
  rd : Int
  wr : Int
  s : Int
  p : Int
  q : Int
  t : Int

abbrev cfgI (I : Ic) (tv : Value) : Value := .agg #[.int .i64 I.h, .int .i64 I.z, .int .i64 I.b, .int .i64 I.r, .int .i64 I.rd, .int .i64 I.wr, .int .i64 I.s, .int .i64 I.p, .int .i64 I.q, .int .i64 I.t, tv]

abbrev cfgOI (h z b r rd wr s p q t : Int) (tv : Value) : Obj := .cells #[.int .i64 h, .int .i64 z, .int .i64 b, .int .i64 r, .int .i64 rd, .int .i64 wr, .int .i64 s, .int .i64 p, .int .i64 q, .int .i64 t, tv] 24

theorem cfgI_cells {W : World} {g : Nat} {h z b r rd wr s p q t : Int} {tv : Value} (hb : W.heap[g]? = some (cfgOI h z b r rd wr s p q t tv)) :
    W.cell? ⟨g, 0, none⟩ = some (.int .i64 h) ∧ W.cell? ⟨g, 1, none⟩ = some (.int .i64 z) ∧ W.cell? ⟨g, 2, none⟩ = some (.int .i64 b) ∧ W.cell? ⟨g, 3, none⟩ = some (.int .i64 r) ∧ W.cell? ⟨g, 4, none⟩ = some (.int .i64 rd) ∧ W.cell? ⟨g, 5, none⟩ = some (.int .i64 wr) ∧ W.cell? ⟨g, 6, none⟩ = some (.int .i64 s) ∧ W.cell? ⟨g, 7, none⟩ = some (.int .i64 p) ∧ W.cell? ⟨g, 8, none⟩ = some (.int .i64 q) ∧ W.cell? ⟨g, 9, none⟩ = some (.int .i64 t) ∧ W.cell? ⟨g, 10, none⟩ = some tv :=
  ⟨(row_cell hb 0 _ rfl).1, (row_cell hb 1 _ rfl).1, (row_cell hb 2 _ rfl).1, (row_cell hb 3 _ rfl).1, (row_cell hb 4 _ rfl).1, (row_cell hb 5 _ rfl).1, (row_cell hb 6 _ rfl).1, (row_cell hb 7 _ rfl).1, (row_cell hb 8 _ rfl).1, (row_cell hb 9 _ rfl).1, (row_cell hb 10 _ rfl).1⟩

/-- Its numbers may be. -/
structure okI (I : Ic) (len : Nat) : Prop where
  h : 0 ≤ I.h ∧ I.h ≤ 6
  z : 1 ≤ I.z ∧ I.z ≤ 4
  b : 1 ≤ I.b ∧ I.b ≤ 64
  r : 1 ≤ I.r ∧ I.r ≤ 4
  rd : 1 ≤ I.rd ∧ I.rd ≤ 8
  wr : 1 ≤ I.wr ∧ I.wr ≤ 8
  s : 0 ≤ I.s ∧ I.s ≤ 64
  p : 1 ≤ I.p ∧ I.p ≤ 8
  q : 1 ≤ I.q ∧ I.q ≤ 16
  t : 1 ≤ I.t ∧ I.t ≤ 8
  len : 1 ≤ len ∧ len ≤ 4

/-- Its tables may be. -/
def okT (len : Nat) (Z : Nat → List Int) : Prop := ∀ r, r < len → 1 ≤ (Z r).length ∧ (Z r).length ≤ 4 ∧ ∀ k ∈ Z r, k = 1 ∨ k = 2

def mayP (I : Ic) (len : Nat) (Z : Nat → List Int) : Prop := okI I len ∧ okT len Z

set_option maxRecDepth 100000 in
set_option maxHeartbeats 16000000 in
theorem rmay_num (w : World) (I : Ic) (a : Option Addr) (len c : Nat) (hno : ¬ okI I len) : Calls Try.prog 11 #[cfgI I (.slice a len c)] w fun e w' => e = .returned (.bool false) ∧ Chg no w w' := by
  have H1 : Hid (∀ W, _) := fun W => rmayh_any W I.h
  have H2 : Hid (∀ W, _) := fun W => rlength_any W I.z
  have hno' : Hid (¬ okI I len) := hno
  clear hno
  by_cases a0 : 0 ≤ I.h ∧ I.h ≤ 6
  rotate_left
  · rw [decide_eq_false a0] at H1
    obtain ⟨h, z, b, r, rd, wr, s, p, q, t⟩ := I
    try simp only at *
    clear hno'
    go_enter Try.func11, Try.ntmps11
    go_wp2_with fail
    refine (H1.out _).mono ?_
    rintro e w2 ⟨rfl, hw⟩
    subst hw
    obtain ⟨w1, hw1⟩ : ∃ w1, w.alloc (cfgOI h z b r rd wr s p q t (.slice a len c)) = w1 := ⟨_, rfl⟩
    have hb : w1.heap[w.heap.size]? = some (cfgOI h z b r rd wr s p q t (.slice a len c)) := by rw [← hw1]; exact heap_alloc_new w _
    have HK1 : Hid (Chg no w w1) := by rw [← hw1]; exact (Chg.refl no w).alloc _
    rw [hw1]
    obtain ⟨g, hg⟩ : ∃ g, w.heap.size = g := ⟨_, rfl⟩
    rw [hg] at hb ⊢
    clear hw1 hg
    obtain ⟨c0, c1, c2, c3, c4, c5, c6, c7, c8, c9, c10⟩ := cfgI_cells hb
    clear hb
    go_wp2
    all_goals go_ret
    all_goals exact ⟨rfl, HK1.out⟩
  rw [decide_eq_true a0] at H1
  by_cases a1 : 1 ≤ I.z ∧ I.z ≤ 4
  rotate_left
  · rw [if_neg a1] at H2
    obtain ⟨h, z, b, r, rd, wr, s, p, q, t⟩ := I
    try simp only at *
    clear hno'
    go_enter Try.func11, Try.ntmps11
    go_wp2_with fail
    refine (H1.out _).mono ?_
    rintro e w2 ⟨rfl, hw⟩
    subst hw
    obtain ⟨w1, hw1⟩ : ∃ w1, w.alloc (cfgOI h z b r rd wr s p q t (.slice a len c)) = w1 := ⟨_, rfl⟩
    have hb : w1.heap[w.heap.size]? = some (cfgOI h z b r rd wr s p q t (.slice a len c)) := by rw [← hw1]; exact heap_alloc_new w _
    have HK1 : Hid (Chg no w w1) := by rw [← hw1]; exact (Chg.refl no w).alloc _
    rw [hw1]
    obtain ⟨g, hg⟩ : ∃ g, w.heap.size = g := ⟨_, rfl⟩
    rw [hg] at hb ⊢
    clear hw1 hg
    obtain ⟨c0, c1, c2, c3, c4, c5, c6, c7, c8, c9, c10⟩ := cfgI_cells hb
    clear hb
    go_wp2_with fail
    refine (H2.out _).mono ?_
    rintro e w3 ⟨rfl, hw⟩
    subst hw
    go_wp2
    all_goals go_ret
    all_goals exact ⟨rfl, HK1.out⟩
  rw [if_pos a1] at H2
  have hz0 : ¬ 38 * I.z = 0 := by omega
  obtain ⟨Y, hY⟩ : ∃ Y, 38 * I.z = Y := ⟨_, rfl⟩
  rw [hY] at H2 hz0
  clear hY
  by_cases a2 : 1 ≤ I.b
  rotate_left
  · have u2 : I.b < 1 := by omega
    clear a2
    obtain ⟨h, z, b, r, rd, wr, s, p, q, t⟩ := I
    try simp only at *
    clear hno'
    go_enter Try.func11, Try.ntmps11
    go_wp2_with fail
    refine (H1.out _).mono ?_
    rintro e w2 ⟨rfl, hw⟩
    subst hw
    obtain ⟨w1, hw1⟩ : ∃ w1, w.alloc (cfgOI h z b r rd wr s p q t (.slice a len c)) = w1 := ⟨_, rfl⟩
    have hb : w1.heap[w.heap.size]? = some (cfgOI h z b r rd wr s p q t (.slice a len c)) := by rw [← hw1]; exact heap_alloc_new w _
    have HK1 : Hid (Chg no w w1) := by rw [← hw1]; exact (Chg.refl no w).alloc _
    rw [hw1]
    obtain ⟨g, hg⟩ : ∃ g, w.heap.size = g := ⟨_, rfl⟩
    rw [hg] at hb ⊢
    clear hw1 hg
    obtain ⟨c0, c1, c2, c3, c4, c5, c6, c7, c8, c9, c10⟩ := cfgI_cells hb
    clear hb
    go_wp2_with fail
    refine (H2.out _).mono ?_
    rintro e w3 ⟨rfl, hw⟩
    subst hw
    go_wp2
    all_goals go_ret
    all_goals exact ⟨rfl, HK1.out⟩
  have u2 : ¬ I.b < 1 := by omega
  by_cases a3 : I.b ≤ 64
  rotate_left
  · have u3 : 64 < I.b := by omega
    clear a3
    obtain ⟨h, z, b, r, rd, wr, s, p, q, t⟩ := I
    try simp only at *
    clear hno'
    go_enter Try.func11, Try.ntmps11
    go_wp2_with fail
    refine (H1.out _).mono ?_
    rintro e w2 ⟨rfl, hw⟩
    subst hw
    obtain ⟨w1, hw1⟩ : ∃ w1, w.alloc (cfgOI h z b r rd wr s p q t (.slice a len c)) = w1 := ⟨_, rfl⟩
    have hb : w1.heap[w.heap.size]? = some (cfgOI h z b r rd wr s p q t (.slice a len c)) := by rw [← hw1]; exact heap_alloc_new w _
    have HK1 : Hid (Chg no w w1) := by rw [← hw1]; exact (Chg.refl no w).alloc _
    rw [hw1]
    obtain ⟨g, hg⟩ : ∃ g, w.heap.size = g := ⟨_, rfl⟩
    rw [hg] at hb ⊢
    clear hw1 hg
    obtain ⟨c0, c1, c2, c3, c4, c5, c6, c7, c8, c9, c10⟩ := cfgI_cells hb
    clear hb
    go_wp2_with fail
    refine (H2.out _).mono ?_
    rintro e w3 ⟨rfl, hw⟩
    subst hw
    go_wp2
    all_goals go_ret
    all_goals exact ⟨rfl, HK1.out⟩
  have u3 : ¬ 64 < I.b := by omega
  by_cases a4 : 1 ≤ I.r
  rotate_left
  · have u4 : I.r < 1 := by omega
    clear a4
    obtain ⟨h, z, b, r, rd, wr, s, p, q, t⟩ := I
    try simp only at *
    clear hno'
    go_enter Try.func11, Try.ntmps11
    go_wp2_with fail
    refine (H1.out _).mono ?_
    rintro e w2 ⟨rfl, hw⟩
    subst hw
    obtain ⟨w1, hw1⟩ : ∃ w1, w.alloc (cfgOI h z b r rd wr s p q t (.slice a len c)) = w1 := ⟨_, rfl⟩
    have hb : w1.heap[w.heap.size]? = some (cfgOI h z b r rd wr s p q t (.slice a len c)) := by rw [← hw1]; exact heap_alloc_new w _
    have HK1 : Hid (Chg no w w1) := by rw [← hw1]; exact (Chg.refl no w).alloc _
    rw [hw1]
    obtain ⟨g, hg⟩ : ∃ g, w.heap.size = g := ⟨_, rfl⟩
    rw [hg] at hb ⊢
    clear hw1 hg
    obtain ⟨c0, c1, c2, c3, c4, c5, c6, c7, c8, c9, c10⟩ := cfgI_cells hb
    clear hb
    go_wp2_with fail
    refine (H2.out _).mono ?_
    rintro e w3 ⟨rfl, hw⟩
    subst hw
    go_wp2
    all_goals go_ret
    all_goals exact ⟨rfl, HK1.out⟩
  have u4 : ¬ I.r < 1 := by omega
  by_cases a5 : I.r ≤ 4
  rotate_left
  · have u5 : 4 < I.r := by omega
    clear a5
    obtain ⟨h, z, b, r, rd, wr, s, p, q, t⟩ := I
    try simp only at *
    clear hno'
    go_enter Try.func11, Try.ntmps11
    go_wp2_with fail
    refine (H1.out _).mono ?_
    rintro e w2 ⟨rfl, hw⟩
    subst hw
    obtain ⟨w1, hw1⟩ : ∃ w1, w.alloc (cfgOI h z b r rd wr s p q t (.slice a len c)) = w1 := ⟨_, rfl⟩
    have hb : w1.heap[w.heap.size]? = some (cfgOI h z b r rd wr s p q t (.slice a len c)) := by rw [← hw1]; exact heap_alloc_new w _
    have HK1 : Hid (Chg no w w1) := by rw [← hw1]; exact (Chg.refl no w).alloc _
    rw [hw1]
    obtain ⟨g, hg⟩ : ∃ g, w.heap.size = g := ⟨_, rfl⟩
    rw [hg] at hb ⊢
    clear hw1 hg
    obtain ⟨c0, c1, c2, c3, c4, c5, c6, c7, c8, c9, c10⟩ := cfgI_cells hb
    clear hb
    go_wp2_with fail
    refine (H2.out _).mono ?_
    rintro e w3 ⟨rfl, hw⟩
    subst hw
    go_wp2
    all_goals go_ret
    all_goals exact ⟨rfl, HK1.out⟩
  have u5 : ¬ 4 < I.r := by omega
  by_cases a6 : 1 ≤ I.rd
  rotate_left
  · have u6 : I.rd < 1 := by omega
    clear a6
    obtain ⟨h, z, b, r, rd, wr, s, p, q, t⟩ := I
    try simp only at *
    clear hno'
    go_enter Try.func11, Try.ntmps11
    go_wp2_with fail
    refine (H1.out _).mono ?_
    rintro e w2 ⟨rfl, hw⟩
    subst hw
    obtain ⟨w1, hw1⟩ : ∃ w1, w.alloc (cfgOI h z b r rd wr s p q t (.slice a len c)) = w1 := ⟨_, rfl⟩
    have hb : w1.heap[w.heap.size]? = some (cfgOI h z b r rd wr s p q t (.slice a len c)) := by rw [← hw1]; exact heap_alloc_new w _
    have HK1 : Hid (Chg no w w1) := by rw [← hw1]; exact (Chg.refl no w).alloc _
    rw [hw1]
    obtain ⟨g, hg⟩ : ∃ g, w.heap.size = g := ⟨_, rfl⟩
    rw [hg] at hb ⊢
    clear hw1 hg
    obtain ⟨c0, c1, c2, c3, c4, c5, c6, c7, c8, c9, c10⟩ := cfgI_cells hb
    clear hb
    go_wp2_with fail
    refine (H2.out _).mono ?_
    rintro e w3 ⟨rfl, hw⟩
    subst hw
    go_wp2
    all_goals go_ret
    all_goals exact ⟨rfl, HK1.out⟩
  have u6 : ¬ I.rd < 1 := by omega
  by_cases a7 : I.rd ≤ 8
  rotate_left
  · have u7 : 8 < I.rd := by omega
    clear a7
    obtain ⟨h, z, b, r, rd, wr, s, p, q, t⟩ := I
    try simp only at *
    clear hno'
    go_enter Try.func11, Try.ntmps11
    go_wp2_with fail
    refine (H1.out _).mono ?_
    rintro e w2 ⟨rfl, hw⟩
    subst hw
    obtain ⟨w1, hw1⟩ : ∃ w1, w.alloc (cfgOI h z b r rd wr s p q t (.slice a len c)) = w1 := ⟨_, rfl⟩
    have hb : w1.heap[w.heap.size]? = some (cfgOI h z b r rd wr s p q t (.slice a len c)) := by rw [← hw1]; exact heap_alloc_new w _
    have HK1 : Hid (Chg no w w1) := by rw [← hw1]; exact (Chg.refl no w).alloc _
    rw [hw1]
    obtain ⟨g, hg⟩ : ∃ g, w.heap.size = g := ⟨_, rfl⟩
    rw [hg] at hb ⊢
    clear hw1 hg
    obtain ⟨c0, c1, c2, c3, c4, c5, c6, c7, c8, c9, c10⟩ := cfgI_cells hb
    clear hb
    go_wp2_with fail
    refine (H2.out _).mono ?_
    rintro e w3 ⟨rfl, hw⟩
    subst hw
    go_wp2
    all_goals go_ret
    all_goals exact ⟨rfl, HK1.out⟩
  have u7 : ¬ 8 < I.rd := by omega
  by_cases a8 : 1 ≤ I.wr
  rotate_left
  · have u8 : I.wr < 1 := by omega
    clear a8
    obtain ⟨h, z, b, r, rd, wr, s, p, q, t⟩ := I
    try simp only at *
    clear hno'
    go_enter Try.func11, Try.ntmps11
    go_wp2_with fail
    refine (H1.out _).mono ?_
    rintro e w2 ⟨rfl, hw⟩
    subst hw
    obtain ⟨w1, hw1⟩ : ∃ w1, w.alloc (cfgOI h z b r rd wr s p q t (.slice a len c)) = w1 := ⟨_, rfl⟩
    have hb : w1.heap[w.heap.size]? = some (cfgOI h z b r rd wr s p q t (.slice a len c)) := by rw [← hw1]; exact heap_alloc_new w _
    have HK1 : Hid (Chg no w w1) := by rw [← hw1]; exact (Chg.refl no w).alloc _
    rw [hw1]
    obtain ⟨g, hg⟩ : ∃ g, w.heap.size = g := ⟨_, rfl⟩
    rw [hg] at hb ⊢
    clear hw1 hg
    obtain ⟨c0, c1, c2, c3, c4, c5, c6, c7, c8, c9, c10⟩ := cfgI_cells hb
    clear hb
    go_wp2_with fail
    refine (H2.out _).mono ?_
    rintro e w3 ⟨rfl, hw⟩
    subst hw
    go_wp2
    all_goals go_ret
    all_goals exact ⟨rfl, HK1.out⟩
  have u8 : ¬ I.wr < 1 := by omega
  by_cases a9 : I.wr ≤ 8
  rotate_left
  · have u9 : 8 < I.wr := by omega
    clear a9
    obtain ⟨h, z, b, r, rd, wr, s, p, q, t⟩ := I
    try simp only at *
    clear hno'
    go_enter Try.func11, Try.ntmps11
    go_wp2_with fail
    refine (H1.out _).mono ?_
    rintro e w2 ⟨rfl, hw⟩
    subst hw
    obtain ⟨w1, hw1⟩ : ∃ w1, w.alloc (cfgOI h z b r rd wr s p q t (.slice a len c)) = w1 := ⟨_, rfl⟩
    have hb : w1.heap[w.heap.size]? = some (cfgOI h z b r rd wr s p q t (.slice a len c)) := by rw [← hw1]; exact heap_alloc_new w _
    have HK1 : Hid (Chg no w w1) := by rw [← hw1]; exact (Chg.refl no w).alloc _
    rw [hw1]
    obtain ⟨g, hg⟩ : ∃ g, w.heap.size = g := ⟨_, rfl⟩
    rw [hg] at hb ⊢
    clear hw1 hg
    obtain ⟨c0, c1, c2, c3, c4, c5, c6, c7, c8, c9, c10⟩ := cfgI_cells hb
    clear hb
    go_wp2_with fail
    refine (H2.out _).mono ?_
    rintro e w3 ⟨rfl, hw⟩
    subst hw
    go_wp2
    all_goals go_ret
    all_goals exact ⟨rfl, HK1.out⟩
  have u9 : ¬ 8 < I.wr := by omega
  by_cases a10 : 0 ≤ I.s
  rotate_left
  · have u10 : I.s < 0 := by omega
    clear a10
    obtain ⟨h, z, b, r, rd, wr, s, p, q, t⟩ := I
    try simp only at *
    clear hno'
    go_enter Try.func11, Try.ntmps11
    go_wp2_with fail
    refine (H1.out _).mono ?_
    rintro e w2 ⟨rfl, hw⟩
    subst hw
    obtain ⟨w1, hw1⟩ : ∃ w1, w.alloc (cfgOI h z b r rd wr s p q t (.slice a len c)) = w1 := ⟨_, rfl⟩
    have hb : w1.heap[w.heap.size]? = some (cfgOI h z b r rd wr s p q t (.slice a len c)) := by rw [← hw1]; exact heap_alloc_new w _
    have HK1 : Hid (Chg no w w1) := by rw [← hw1]; exact (Chg.refl no w).alloc _
    rw [hw1]
    obtain ⟨g, hg⟩ : ∃ g, w.heap.size = g := ⟨_, rfl⟩
    rw [hg] at hb ⊢
    clear hw1 hg
    obtain ⟨c0, c1, c2, c3, c4, c5, c6, c7, c8, c9, c10⟩ := cfgI_cells hb
    clear hb
    go_wp2_with fail
    refine (H2.out _).mono ?_
    rintro e w3 ⟨rfl, hw⟩
    subst hw
    go_wp2
    all_goals go_ret
    all_goals exact ⟨rfl, HK1.out⟩
  have u10 : ¬ I.s < 0 := by omega
  by_cases a11 : I.s ≤ 64
  rotate_left
  · have u11 : 64 < I.s := by omega
    clear a11
    obtain ⟨h, z, b, r, rd, wr, s, p, q, t⟩ := I
    try simp only at *
    clear hno'
    go_enter Try.func11, Try.ntmps11
    go_wp2_with fail
    refine (H1.out _).mono ?_
    rintro e w2 ⟨rfl, hw⟩
    subst hw
    obtain ⟨w1, hw1⟩ : ∃ w1, w.alloc (cfgOI h z b r rd wr s p q t (.slice a len c)) = w1 := ⟨_, rfl⟩
    have hb : w1.heap[w.heap.size]? = some (cfgOI h z b r rd wr s p q t (.slice a len c)) := by rw [← hw1]; exact heap_alloc_new w _
    have HK1 : Hid (Chg no w w1) := by rw [← hw1]; exact (Chg.refl no w).alloc _
    rw [hw1]
    obtain ⟨g, hg⟩ : ∃ g, w.heap.size = g := ⟨_, rfl⟩
    rw [hg] at hb ⊢
    clear hw1 hg
    obtain ⟨c0, c1, c2, c3, c4, c5, c6, c7, c8, c9, c10⟩ := cfgI_cells hb
    clear hb
    go_wp2_with fail
    refine (H2.out _).mono ?_
    rintro e w3 ⟨rfl, hw⟩
    subst hw
    go_wp2
    all_goals go_ret
    all_goals exact ⟨rfl, HK1.out⟩
  have u11 : ¬ 64 < I.s := by omega
  by_cases a12 : 1 ≤ I.p
  rotate_left
  · have u12 : I.p < 1 := by omega
    clear a12
    obtain ⟨h, z, b, r, rd, wr, s, p, q, t⟩ := I
    try simp only at *
    clear hno'
    go_enter Try.func11, Try.ntmps11
    go_wp2_with fail
    refine (H1.out _).mono ?_
    rintro e w2 ⟨rfl, hw⟩
    subst hw
    obtain ⟨w1, hw1⟩ : ∃ w1, w.alloc (cfgOI h z b r rd wr s p q t (.slice a len c)) = w1 := ⟨_, rfl⟩
    have hb : w1.heap[w.heap.size]? = some (cfgOI h z b r rd wr s p q t (.slice a len c)) := by rw [← hw1]; exact heap_alloc_new w _
    have HK1 : Hid (Chg no w w1) := by rw [← hw1]; exact (Chg.refl no w).alloc _
    rw [hw1]
    obtain ⟨g, hg⟩ : ∃ g, w.heap.size = g := ⟨_, rfl⟩
    rw [hg] at hb ⊢
    clear hw1 hg
    obtain ⟨c0, c1, c2, c3, c4, c5, c6, c7, c8, c9, c10⟩ := cfgI_cells hb
    clear hb
    go_wp2_with fail
    refine (H2.out _).mono ?_
    rintro e w3 ⟨rfl, hw⟩
    subst hw
    go_wp2
    all_goals go_ret
    all_goals exact ⟨rfl, HK1.out⟩
  have u12 : ¬ I.p < 1 := by omega
  by_cases a13 : I.p ≤ 8
  rotate_left
  · have u13 : 8 < I.p := by omega
    clear a13
    obtain ⟨h, z, b, r, rd, wr, s, p, q, t⟩ := I
    try simp only at *
    clear hno'
    go_enter Try.func11, Try.ntmps11
    go_wp2_with fail
    refine (H1.out _).mono ?_
    rintro e w2 ⟨rfl, hw⟩
    subst hw
    obtain ⟨w1, hw1⟩ : ∃ w1, w.alloc (cfgOI h z b r rd wr s p q t (.slice a len c)) = w1 := ⟨_, rfl⟩
    have hb : w1.heap[w.heap.size]? = some (cfgOI h z b r rd wr s p q t (.slice a len c)) := by rw [← hw1]; exact heap_alloc_new w _
    have HK1 : Hid (Chg no w w1) := by rw [← hw1]; exact (Chg.refl no w).alloc _
    rw [hw1]
    obtain ⟨g, hg⟩ : ∃ g, w.heap.size = g := ⟨_, rfl⟩
    rw [hg] at hb ⊢
    clear hw1 hg
    obtain ⟨c0, c1, c2, c3, c4, c5, c6, c7, c8, c9, c10⟩ := cfgI_cells hb
    clear hb
    go_wp2_with fail
    refine (H2.out _).mono ?_
    rintro e w3 ⟨rfl, hw⟩
    subst hw
    go_wp2
    all_goals go_ret
    all_goals exact ⟨rfl, HK1.out⟩
  have u13 : ¬ 8 < I.p := by omega
  by_cases a14 : 1 ≤ I.q
  rotate_left
  · have u14 : I.q < 1 := by omega
    clear a14
    obtain ⟨h, z, b, r, rd, wr, s, p, q, t⟩ := I
    try simp only at *
    clear hno'
    go_enter Try.func11, Try.ntmps11
    go_wp2_with fail
    refine (H1.out _).mono ?_
    rintro e w2 ⟨rfl, hw⟩
    subst hw
    obtain ⟨w1, hw1⟩ : ∃ w1, w.alloc (cfgOI h z b r rd wr s p q t (.slice a len c)) = w1 := ⟨_, rfl⟩
    have hb : w1.heap[w.heap.size]? = some (cfgOI h z b r rd wr s p q t (.slice a len c)) := by rw [← hw1]; exact heap_alloc_new w _
    have HK1 : Hid (Chg no w w1) := by rw [← hw1]; exact (Chg.refl no w).alloc _
    rw [hw1]
    obtain ⟨g, hg⟩ : ∃ g, w.heap.size = g := ⟨_, rfl⟩
    rw [hg] at hb ⊢
    clear hw1 hg
    obtain ⟨c0, c1, c2, c3, c4, c5, c6, c7, c8, c9, c10⟩ := cfgI_cells hb
    clear hb
    go_wp2_with fail
    refine (H2.out _).mono ?_
    rintro e w3 ⟨rfl, hw⟩
    subst hw
    go_wp2
    all_goals go_ret
    all_goals exact ⟨rfl, HK1.out⟩
  have u14 : ¬ I.q < 1 := by omega
  by_cases a15 : I.q ≤ 16
  rotate_left
  · have u15 : 16 < I.q := by omega
    clear a15
    obtain ⟨h, z, b, r, rd, wr, s, p, q, t⟩ := I
    try simp only at *
    clear hno'
    go_enter Try.func11, Try.ntmps11
    go_wp2_with fail
    refine (H1.out _).mono ?_
    rintro e w2 ⟨rfl, hw⟩
    subst hw
    obtain ⟨w1, hw1⟩ : ∃ w1, w.alloc (cfgOI h z b r rd wr s p q t (.slice a len c)) = w1 := ⟨_, rfl⟩
    have hb : w1.heap[w.heap.size]? = some (cfgOI h z b r rd wr s p q t (.slice a len c)) := by rw [← hw1]; exact heap_alloc_new w _
    have HK1 : Hid (Chg no w w1) := by rw [← hw1]; exact (Chg.refl no w).alloc _
    rw [hw1]
    obtain ⟨g, hg⟩ : ∃ g, w.heap.size = g := ⟨_, rfl⟩
    rw [hg] at hb ⊢
    clear hw1 hg
    obtain ⟨c0, c1, c2, c3, c4, c5, c6, c7, c8, c9, c10⟩ := cfgI_cells hb
    clear hb
    go_wp2_with fail
    refine (H2.out _).mono ?_
    rintro e w3 ⟨rfl, hw⟩
    subst hw
    go_wp2
    all_goals go_ret
    all_goals exact ⟨rfl, HK1.out⟩
  have u15 : ¬ 16 < I.q := by omega
  by_cases a16 : 1 ≤ I.t
  rotate_left
  · have u16 : I.t < 1 := by omega
    clear a16
    obtain ⟨h, z, b, r, rd, wr, s, p, q, t⟩ := I
    try simp only at *
    clear hno'
    go_enter Try.func11, Try.ntmps11
    go_wp2_with fail
    refine (H1.out _).mono ?_
    rintro e w2 ⟨rfl, hw⟩
    subst hw
    obtain ⟨w1, hw1⟩ : ∃ w1, w.alloc (cfgOI h z b r rd wr s p q t (.slice a len c)) = w1 := ⟨_, rfl⟩
    have hb : w1.heap[w.heap.size]? = some (cfgOI h z b r rd wr s p q t (.slice a len c)) := by rw [← hw1]; exact heap_alloc_new w _
    have HK1 : Hid (Chg no w w1) := by rw [← hw1]; exact (Chg.refl no w).alloc _
    rw [hw1]
    obtain ⟨g, hg⟩ : ∃ g, w.heap.size = g := ⟨_, rfl⟩
    rw [hg] at hb ⊢
    clear hw1 hg
    obtain ⟨c0, c1, c2, c3, c4, c5, c6, c7, c8, c9, c10⟩ := cfgI_cells hb
    clear hb
    go_wp2_with fail
    refine (H2.out _).mono ?_
    rintro e w3 ⟨rfl, hw⟩
    subst hw
    go_wp2
    all_goals go_ret
    all_goals exact ⟨rfl, HK1.out⟩
  have u16 : ¬ I.t < 1 := by omega
  by_cases a17 : I.t ≤ 8
  rotate_left
  · have u17 : 8 < I.t := by omega
    clear a17
    obtain ⟨h, z, b, r, rd, wr, s, p, q, t⟩ := I
    try simp only at *
    clear hno'
    go_enter Try.func11, Try.ntmps11
    go_wp2_with fail
    refine (H1.out _).mono ?_
    rintro e w2 ⟨rfl, hw⟩
    subst hw
    obtain ⟨w1, hw1⟩ : ∃ w1, w.alloc (cfgOI h z b r rd wr s p q t (.slice a len c)) = w1 := ⟨_, rfl⟩
    have hb : w1.heap[w.heap.size]? = some (cfgOI h z b r rd wr s p q t (.slice a len c)) := by rw [← hw1]; exact heap_alloc_new w _
    have HK1 : Hid (Chg no w w1) := by rw [← hw1]; exact (Chg.refl no w).alloc _
    rw [hw1]
    obtain ⟨g, hg⟩ : ∃ g, w.heap.size = g := ⟨_, rfl⟩
    rw [hg] at hb ⊢
    clear hw1 hg
    obtain ⟨c0, c1, c2, c3, c4, c5, c6, c7, c8, c9, c10⟩ := cfgI_cells hb
    clear hb
    go_wp2_with fail
    refine (H2.out _).mono ?_
    rintro e w3 ⟨rfl, hw⟩
    subst hw
    go_wp2
    all_goals go_ret
    all_goals exact ⟨rfl, HK1.out⟩
  have u17 : ¬ 8 < I.t := by omega
  by_cases a18 : 1 ≤ len
  rotate_left
  · have u18 : (len : Int) < 1 := by omega
    clear a18
    obtain ⟨h, z, b, r, rd, wr, s, p, q, t⟩ := I
    try simp only at *
    clear hno'
    go_enter Try.func11, Try.ntmps11
    go_wp2_with fail
    refine (H1.out _).mono ?_
    rintro e w2 ⟨rfl, hw⟩
    subst hw
    obtain ⟨w1, hw1⟩ : ∃ w1, w.alloc (cfgOI h z b r rd wr s p q t (.slice a len c)) = w1 := ⟨_, rfl⟩
    have hb : w1.heap[w.heap.size]? = some (cfgOI h z b r rd wr s p q t (.slice a len c)) := by rw [← hw1]; exact heap_alloc_new w _
    have HK1 : Hid (Chg no w w1) := by rw [← hw1]; exact (Chg.refl no w).alloc _
    rw [hw1]
    obtain ⟨g, hg⟩ : ∃ g, w.heap.size = g := ⟨_, rfl⟩
    rw [hg] at hb ⊢
    clear hw1 hg
    obtain ⟨c0, c1, c2, c3, c4, c5, c6, c7, c8, c9, c10⟩ := cfgI_cells hb
    clear hb
    go_wp2_with fail
    refine (H2.out _).mono ?_
    rintro e w3 ⟨rfl, hw⟩
    subst hw
    go_wp2
    all_goals go_ret
    all_goals exact ⟨rfl, HK1.out⟩
  have u18 : ¬ (len : Int) < 1 := by omega
  by_cases a19 : len ≤ 4
  rotate_left
  · have u19 : 4 < (len : Int) := by omega
    clear a19
    obtain ⟨h, z, b, r, rd, wr, s, p, q, t⟩ := I
    try simp only at *
    clear hno'
    go_enter Try.func11, Try.ntmps11
    go_wp2_with fail
    refine (H1.out _).mono ?_
    rintro e w2 ⟨rfl, hw⟩
    subst hw
    obtain ⟨w1, hw1⟩ : ∃ w1, w.alloc (cfgOI h z b r rd wr s p q t (.slice a len c)) = w1 := ⟨_, rfl⟩
    have hb : w1.heap[w.heap.size]? = some (cfgOI h z b r rd wr s p q t (.slice a len c)) := by rw [← hw1]; exact heap_alloc_new w _
    have HK1 : Hid (Chg no w w1) := by rw [← hw1]; exact (Chg.refl no w).alloc _
    rw [hw1]
    obtain ⟨g, hg⟩ : ∃ g, w.heap.size = g := ⟨_, rfl⟩
    rw [hg] at hb ⊢
    clear hw1 hg
    obtain ⟨c0, c1, c2, c3, c4, c5, c6, c7, c8, c9, c10⟩ := cfgI_cells hb
    clear hb
    go_wp2_with fail
    refine (H2.out _).mono ?_
    rintro e w3 ⟨rfl, hw⟩
    subst hw
    go_wp2
    all_goals go_ret
    all_goals exact ⟨rfl, HK1.out⟩
  have u19 : ¬ 4 < (len : Int) := by omega
  exact absurd ⟨a0, a1, ⟨a2, a3⟩, ⟨a4, a5⟩, ⟨a6, a7⟩, ⟨a8, a9⟩, ⟨a10, a11⟩, ⟨a12, a13⟩, ⟨a14, a15⟩, ⟨a16, a17⟩, ⟨a18, a19⟩⟩ hno'.out

end Go.Proofs.Ytfhpdcimdeilpaa.st
