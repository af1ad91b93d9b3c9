/- The program's May, whole. -/
import Derived.Test.YtfhpdcimdeilpaaLe
import Derived.Test.YtfhpdcimdeilpaaDl
namespace Go.Proofs.Ytfhpdcimdeilpaa.st
open Go.ChangeShapes Go.WideShapes Go.ChangeAt Go.RowKit Go.Proofs.Ytfhpdcimdeilpaa.hp Go.Proofs.Ytfhpdcimdeilpaa.tells
set_option linter.unusedVariables false
set_option linter.unusedSimpArgs false

set_option maxRecDepth 100000 in
set_option maxHeartbeats 16000000 in
theorem may_any (w : World) (I : Ic) (a : Option Addr) (len c : Nat) (A : Nat → Option Addr) (C : Nat → Nat) (Z : Nat → List Int) (R : Rws w a len A C Z) (hlm : len ≤ maxLen) (B : Bool) (hB : B = true ↔ mayP I len Z) : Calls Try.prog 10 #[cfgI I (.slice a len c)] w fun e w' => e = .returned (.bool B) ∧ Chg no w w' := by
  have HB : Hid (B = true ↔ mayP I len Z) := hB
  have HT : Hid (∀ W, Chg no w W → ∀ X : Bool, (X = true ↔ (1 ≤ len ∧ len ≤ 4) ∧ okT len Z) → Calls Try.prog 53 #[.slice a len c] W fun e w' => e = .returned (.bool X) ∧ w' = W) := fun W k X hX => tables_any W a len c A C Z hlm (Rws.chg R k) X hX
  clear hB R hlm
  by_cases a0 : 0 ≤ I.h ∧ I.h ≤ 6
  rotate_left
  · have H0 : Hid (∀ W, Calls Try.prog 51 #[.int .i64 I.h] W fun e w' => e = .returned (.bool false) ∧ w' = W) := fun W => by
      have := mayh_any W I.h
      rwa [decide_eq_false a0] at this
    have hbf : B = false := by
      rw [Bool.eq_false_iff]
      intro hh
      exact a0 (HB.out.1 hh).1.h
    subst hbf
    clear HB HT
    obtain ⟨h, z, b, r, rd, wt, s, p, q, t⟩ := I
    try simp only at *
    clear a0
    go_enter Try.func10, Try.ntmps10
    go_wp2_with fail
    refine (H0.out _).mono ?_
    rintro e w2 ⟨rfl, hw⟩
    subst hw
    go_wp2
    go_ret
    exact ⟨rfl, (Chg.refl no w).alloc _⟩
  have H0 : Hid (∀ W, Calls Try.prog 51 #[.int .i64 I.h] W fun e w' => e = .returned (.bool true) ∧ w' = W) := fun W => by
    have := mayh_any W I.h
    rwa [decide_eq_true a0] at this
  by_cases a1 : 1 ≤ I.z ∧ I.z ≤ 4
  rotate_left
  · have H1 : Hid (∀ W, Calls Try.prog 52 #[.int .i64 1, .int .i64 I.z, .int .i64 4] W fun e w' => e = .returned (.bool false) ∧ w' = W) := fun W => within_f W a1
    have hbf : B = false := by
      rw [Bool.eq_false_iff]
      intro hh
      exact a1 (HB.out.1 hh).1.z
    subst hbf
    clear HB HT
    obtain ⟨h, z, b, r, rd, wt, s, p, q, t⟩ := I
    try simp only at *
    clear a0 a1
    go_enter Try.func10, Try.ntmps10
    go_wp2_with fail
    refine (H0.out _).mono ?_
    rintro e w2 ⟨rfl, hw⟩
    subst hw
    go_wp2_with fail
    refine (H1.out _).mono ?_
    rintro e w2 ⟨rfl, hw⟩
    subst hw
    go_wp2
    go_ret
    exact ⟨rfl, (Chg.refl no w).alloc _⟩
  have H1 : Hid (∀ W, Calls Try.prog 52 #[.int .i64 1, .int .i64 I.z, .int .i64 4] W fun e w' => e = .returned (.bool true) ∧ w' = W) := fun W => within_t W a1
  by_cases a2 : 1 ≤ I.b ∧ I.b ≤ 64
  rotate_left
  · have H2 : Hid (∀ W, Calls Try.prog 52 #[.int .i64 1, .int .i64 I.b, .int .i64 64] W fun e w' => e = .returned (.bool false) ∧ w' = W) := fun W => within_f W a2
    have hbf : B = false := by
      rw [Bool.eq_false_iff]
      intro hh
      exact a2 (HB.out.1 hh).1.b
    subst hbf
    clear HB HT
    obtain ⟨h, z, b, r, rd, wt, s, p, q, t⟩ := I
    try simp only at *
    clear a0 a1 a2
    go_enter Try.func10, Try.ntmps10
    go_wp2_with fail
    refine (H0.out _).mono ?_
    rintro e w2 ⟨rfl, hw⟩
    subst hw
    go_wp2_with fail
    refine (H1.out _).mono ?_
    rintro e w2 ⟨rfl, hw⟩
    subst hw
    go_wp2_with fail
    refine (H2.out _).mono ?_
    rintro e w2 ⟨rfl, hw⟩
    subst hw
    go_wp2
    go_ret
    exact ⟨rfl, (Chg.refl no w).alloc _⟩
  have H2 : Hid (∀ W, Calls Try.prog 52 #[.int .i64 1, .int .i64 I.b, .int .i64 64] W fun e w' => e = .returned (.bool true) ∧ w' = W) := fun W => within_t W a2
  by_cases a3 : 1 ≤ I.r ∧ I.r ≤ 4
  rotate_left
  · have H3 : Hid (∀ W, Calls Try.prog 52 #[.int .i64 1, .int .i64 I.r, .int .i64 4] W fun e w' => e = .returned (.bool false) ∧ w' = W) := fun W => within_f W a3
    have hbf : B = false := by
      rw [Bool.eq_false_iff]
      intro hh
      exact a3 (HB.out.1 hh).1.r
    subst hbf
    clear HB HT
    obtain ⟨h, z, b, r, rd, wt, s, p, q, t⟩ := I
    try simp only at *
    clear a0 a1 a2 a3
    go_enter Try.func10, Try.ntmps10
    go_wp2_with fail
    refine (H0.out _).mono ?_
    rintro e w2 ⟨rfl, hw⟩
    subst hw
    go_wp2_with fail
    refine (H1.out _).mono ?_
    rintro e w2 ⟨rfl, hw⟩
    subst hw
    go_wp2_with fail
    refine (H2.out _).mono ?_
    rintro e w2 ⟨rfl, hw⟩
    subst hw
    go_wp2_with fail
    refine (H3.out _).mono ?_
    rintro e w2 ⟨rfl, hw⟩
    subst hw
    go_wp2
    go_ret
    exact ⟨rfl, (Chg.refl no w).alloc _⟩
  have H3 : Hid (∀ W, Calls Try.prog 52 #[.int .i64 1, .int .i64 I.r, .int .i64 4] W fun e w' => e = .returned (.bool true) ∧ w' = W) := fun W => within_t W a3
  by_cases a4 : 1 ≤ I.rd ∧ I.rd ≤ 8
  rotate_left
  · have H4 : Hid (∀ W, Calls Try.prog 52 #[.int .i64 1, .int .i64 I.rd, .int .i64 8] W fun e w' => e = .returned (.bool false) ∧ w' = W) := fun W => within_f W a4
    have hbf : B = false := by
      rw [Bool.eq_false_iff]
      intro hh
      exact a4 (HB.out.1 hh).1.rd
    subst hbf
    clear HB HT
    obtain ⟨h, z, b, r, rd, wt, s, p, q, t⟩ := I
    try simp only at *
    clear a0 a1 a2 a3 a4
    go_enter Try.func10, Try.ntmps10
    go_wp2_with fail
    refine (H0.out _).mono ?_
    rintro e w2 ⟨rfl, hw⟩
    subst hw
    go_wp2_with fail
    refine (H1.out _).mono ?_
    rintro e w2 ⟨rfl, hw⟩
    subst hw
    go_wp2_with fail
    refine (H2.out _).mono ?_
    rintro e w2 ⟨rfl, hw⟩
    subst hw
    go_wp2_with fail
    refine (H3.out _).mono ?_
    rintro e w2 ⟨rfl, hw⟩
    subst hw
    go_wp2_with fail
    refine (H4.out _).mono ?_
    rintro e w2 ⟨rfl, hw⟩
    subst hw
    go_wp2
    go_ret
    exact ⟨rfl, (Chg.refl no w).alloc _⟩
  have H4 : Hid (∀ W, Calls Try.prog 52 #[.int .i64 1, .int .i64 I.rd, .int .i64 8] W fun e w' => e = .returned (.bool true) ∧ w' = W) := fun W => within_t W a4
  by_cases a5 : 1 ≤ I.wr ∧ I.wr ≤ 8
  rotate_left
  · have H5 : Hid (∀ W, Calls Try.prog 52 #[.int .i64 1, .int .i64 I.wr, .int .i64 8] W fun e w' => e = .returned (.bool false) ∧ w' = W) := fun W => within_f W a5
    have hbf : B = false := by
      rw [Bool.eq_false_iff]
      intro hh
      exact a5 (HB.out.1 hh).1.wr
    subst hbf
    clear HB HT
    obtain ⟨h, z, b, r, rd, wt, s, p, q, t⟩ := I
    try simp only at *
    clear a0 a1 a2 a3 a4 a5
    go_enter Try.func10, Try.ntmps10
    go_wp2_with fail
    refine (H0.out _).mono ?_
    rintro e w2 ⟨rfl, hw⟩
    subst hw
    go_wp2_with fail
    refine (H1.out _).mono ?_
    rintro e w2 ⟨rfl, hw⟩
    subst hw
    go_wp2_with fail
    refine (H2.out _).mono ?_
    rintro e w2 ⟨rfl, hw⟩
    subst hw
    go_wp2_with fail
    refine (H3.out _).mono ?_
    rintro e w2 ⟨rfl, hw⟩
    subst hw
    go_wp2_with fail
    refine (H4.out _).mono ?_
    rintro e w2 ⟨rfl, hw⟩
    subst hw
    go_wp2_with fail
    refine (H5.out _).mono ?_
    rintro e w2 ⟨rfl, hw⟩
    subst hw
    go_wp2
    go_ret
    exact ⟨rfl, (Chg.refl no w).alloc _⟩
  have H5 : Hid (∀ W, Calls Try.prog 52 #[.int .i64 1, .int .i64 I.wr, .int .i64 8] W fun e w' => e = .returned (.bool true) ∧ w' = W) := fun W => within_t W a5
  by_cases a6 : 0 ≤ I.s ∧ I.s ≤ 64
  rotate_left
  · have H6 : Hid (∀ W, Calls Try.prog 52 #[.int .i64 0, .int .i64 I.s, .int .i64 64] W fun e w' => e = .returned (.bool false) ∧ w' = W) := fun W => within_f W a6
    have hbf : B = false := by
      rw [Bool.eq_false_iff]
      intro hh
      exact a6 (HB.out.1 hh).1.s
    subst hbf
    clear HB HT
    obtain ⟨h, z, b, r, rd, wt, s, p, q, t⟩ := I
    try simp only at *
    clear a0 a1 a2 a3 a4 a5 a6
    go_enter Try.func10, Try.ntmps10
    go_wp2_with fail
    refine (H0.out _).mono ?_
    rintro e w2 ⟨rfl, hw⟩
    subst hw
    go_wp2_with fail
    refine (H1.out _).mono ?_
    rintro e w2 ⟨rfl, hw⟩
    subst hw
    go_wp2_with fail
    refine (H2.out _).mono ?_
    rintro e w2 ⟨rfl, hw⟩
    subst hw
    go_wp2_with fail
    refine (H3.out _).mono ?_
    rintro e w2 ⟨rfl, hw⟩
    subst hw
    go_wp2_with fail
    refine (H4.out _).mono ?_
    rintro e w2 ⟨rfl, hw⟩
    subst hw
    go_wp2_with fail
    refine (H5.out _).mono ?_
    rintro e w2 ⟨rfl, hw⟩
    subst hw
    go_wp2_with fail
    refine (H6.out _).mono ?_
    rintro e w2 ⟨rfl, hw⟩
    subst hw
    go_wp2
    go_ret
    exact ⟨rfl, (Chg.refl no w).alloc _⟩
  have H6 : Hid (∀ W, Calls Try.prog 52 #[.int .i64 0, .int .i64 I.s, .int .i64 64] W fun e w' => e = .returned (.bool true) ∧ w' = W) := fun W => within_t W a6
  by_cases a7 : 1 ≤ I.p ∧ I.p ≤ 8
  rotate_left
  · have H7 : Hid (∀ W, Calls Try.prog 52 #[.int .i64 1, .int .i64 I.p, .int .i64 8] W fun e w' => e = .returned (.bool false) ∧ w' = W) := fun W => within_f W a7
    have hbf : B = false := by
      rw [Bool.eq_false_iff]
      intro hh
      exact a7 (HB.out.1 hh).1.p
    subst hbf
    clear HB HT
    obtain ⟨h, z, b, r, rd, wt, s, p, q, t⟩ := I
    try simp only at *
    clear a0 a1 a2 a3 a4 a5 a6 a7
    go_enter Try.func10, Try.ntmps10
    go_wp2_with fail
    refine (H0.out _).mono ?_
    rintro e w2 ⟨rfl, hw⟩
    subst hw
    go_wp2_with fail
    refine (H1.out _).mono ?_
    rintro e w2 ⟨rfl, hw⟩
    subst hw
    go_wp2_with fail
    refine (H2.out _).mono ?_
    rintro e w2 ⟨rfl, hw⟩
    subst hw
    go_wp2_with fail
    refine (H3.out _).mono ?_
    rintro e w2 ⟨rfl, hw⟩
    subst hw
    go_wp2_with fail
    refine (H4.out _).mono ?_
    rintro e w2 ⟨rfl, hw⟩
    subst hw
    go_wp2_with fail
    refine (H5.out _).mono ?_
    rintro e w2 ⟨rfl, hw⟩
    subst hw
    go_wp2_with fail
    refine (H6.out _).mono ?_
    rintro e w2 ⟨rfl, hw⟩
    subst hw
    go_wp2_with fail
    refine (H7.out _).mono ?_
    rintro e w2 ⟨rfl, hw⟩
    subst hw
    go_wp2
    go_ret
    exact ⟨rfl, (Chg.refl no w).alloc _⟩
  have H7 : Hid (∀ W, Calls Try.prog 52 #[.int .i64 1, .int .i64 I.p, .int .i64 8] W fun e w' => e = .returned (.bool true) ∧ w' = W) := fun W => within_t W a7
  by_cases a8 : 1 ≤ I.q ∧ I.q ≤ 16
  rotate_left
  · have H8 : Hid (∀ W, Calls Try.prog 52 #[.int .i64 1, .int .i64 I.q, .int .i64 16] W fun e w' => e = .returned (.bool false) ∧ w' = W) := fun W => within_f W a8
    have hbf : B = false := by
      rw [Bool.eq_false_iff]
      intro hh
      exact a8 (HB.out.1 hh).1.q
    subst hbf
    clear HB HT
    obtain ⟨h, z, b, r, rd, wt, s, p, q, t⟩ := I
    try simp only at *
    clear a0 a1 a2 a3 a4 a5 a6 a7 a8
    go_enter Try.func10, Try.ntmps10
    go_wp2_with fail
    refine (H0.out _).mono ?_
    rintro e w2 ⟨rfl, hw⟩
    subst hw
    go_wp2_with fail
    refine (H1.out _).mono ?_
    rintro e w2 ⟨rfl, hw⟩
    subst hw
    go_wp2_with fail
    refine (H2.out _).mono ?_
    rintro e w2 ⟨rfl, hw⟩
    subst hw
    go_wp2_with fail
    refine (H3.out _).mono ?_
    rintro e w2 ⟨rfl, hw⟩
    subst hw
    go_wp2_with fail
    refine (H4.out _).mono ?_
    rintro e w2 ⟨rfl, hw⟩
    subst hw
    go_wp2_with fail
    refine (H5.out _).mono ?_
    rintro e w2 ⟨rfl, hw⟩
    subst hw
    go_wp2_with fail
    refine (H6.out _).mono ?_
    rintro e w2 ⟨rfl, hw⟩
    subst hw
    go_wp2_with fail
    refine (H7.out _).mono ?_
    rintro e w2 ⟨rfl, hw⟩
    subst hw
    go_wp2_with fail
    refine (H8.out _).mono ?_
    rintro e w2 ⟨rfl, hw⟩
    subst hw
    go_wp2
    go_ret
    exact ⟨rfl, (Chg.refl no w).alloc _⟩
  have H8 : Hid (∀ W, Calls Try.prog 52 #[.int .i64 1, .int .i64 I.q, .int .i64 16] W fun e w' => e = .returned (.bool true) ∧ w' = W) := fun W => within_t W a8
  by_cases a9 : 1 ≤ I.t ∧ I.t ≤ 8
  rotate_left
  · have H9 : Hid (∀ W, Calls Try.prog 52 #[.int .i64 1, .int .i64 I.t, .int .i64 8] W fun e w' => e = .returned (.bool false) ∧ w' = W) := fun W => within_f W a9
    have hbf : B = false := by
      rw [Bool.eq_false_iff]
      intro hh
      exact a9 (HB.out.1 hh).1.t
    subst hbf
    clear HB HT
    obtain ⟨h, z, b, r, rd, wt, s, p, q, t⟩ := I
    try simp only at *
    clear a0 a1 a2 a3 a4 a5 a6 a7 a8 a9
    go_enter Try.func10, Try.ntmps10
    go_wp2_with fail
    refine (H0.out _).mono ?_
    rintro e w2 ⟨rfl, hw⟩
    subst hw
    go_wp2_with fail
    refine (H1.out _).mono ?_
    rintro e w2 ⟨rfl, hw⟩
    subst hw
    go_wp2_with fail
    refine (H2.out _).mono ?_
    rintro e w2 ⟨rfl, hw⟩
    subst hw
    go_wp2_with fail
    refine (H3.out _).mono ?_
    rintro e w2 ⟨rfl, hw⟩
    subst hw
    go_wp2_with fail
    refine (H4.out _).mono ?_
    rintro e w2 ⟨rfl, hw⟩
    subst hw
    go_wp2_with fail
    refine (H5.out _).mono ?_
    rintro e w2 ⟨rfl, hw⟩
    subst hw
    go_wp2_with fail
    refine (H6.out _).mono ?_
    rintro e w2 ⟨rfl, hw⟩
    subst hw
    go_wp2_with fail
    refine (H7.out _).mono ?_
    rintro e w2 ⟨rfl, hw⟩
    subst hw
    go_wp2_with fail
    refine (H8.out _).mono ?_
    rintro e w2 ⟨rfl, hw⟩
    subst hw
    go_wp2_with fail
    refine (H9.out _).mono ?_
    rintro e w2 ⟨rfl, hw⟩
    subst hw
    go_wp2
    go_ret
    exact ⟨rfl, (Chg.refl no w).alloc _⟩
  have H9 : Hid (∀ W, Calls Try.prog 52 #[.int .i64 1, .int .i64 I.t, .int .i64 8] W fun e w' => e = .returned (.bool true) ∧ w' = W) := fun W => within_t W a9
  have HX : Hid (B = true ↔ (1 ≤ len ∧ len ≤ 4) ∧ okT len Z) := HB.out.trans ⟨fun h => ⟨h.1.len, h.2⟩, fun h => ⟨⟨a0, a1, a2, a3, a4, a5, a6, a7, a8, a9, h.1⟩, h.2⟩⟩
  clear HB
  obtain ⟨h, z, b, r, rd, wt, s, p, q, t⟩ := I
  try simp only at *
  clear a0 a1 a2 a3 a4 a5 a6 a7 a8 a9
  go_enter Try.func10, Try.ntmps10
  go_wp2_with fail
  refine (H0.out _).mono ?_
  rintro e w2 ⟨rfl, hw⟩
  subst hw
  go_wp2_with fail
  refine (H1.out _).mono ?_
  rintro e w2 ⟨rfl, hw⟩
  subst hw
  go_wp2_with fail
  refine (H2.out _).mono ?_
  rintro e w2 ⟨rfl, hw⟩
  subst hw
  go_wp2_with fail
  refine (H3.out _).mono ?_
  rintro e w2 ⟨rfl, hw⟩
  subst hw
  go_wp2_with fail
  refine (H4.out _).mono ?_
  rintro e w2 ⟨rfl, hw⟩
  subst hw
  go_wp2_with fail
  refine (H5.out _).mono ?_
  rintro e w2 ⟨rfl, hw⟩
  subst hw
  go_wp2_with fail
  refine (H6.out _).mono ?_
  rintro e w2 ⟨rfl, hw⟩
  subst hw
  go_wp2_with fail
  refine (H7.out _).mono ?_
  rintro e w2 ⟨rfl, hw⟩
  subst hw
  go_wp2_with fail
  refine (H8.out _).mono ?_
  rintro e w2 ⟨rfl, hw⟩
  subst hw
  go_wp2_with fail
  refine (H9.out _).mono ?_
  rintro e w2 ⟨rfl, hw⟩
  subst hw
  go_wp2_with fail
  refine (HT.out _ ((Chg.refl no w).alloc _) B HX.out).mono ?_
  rintro e w2 ⟨rfl, hw⟩
  subst hw
  cases B
  · go_wp2
    go_ret
    exact ⟨rfl, (Chg.refl no w).alloc _⟩
  · go_wp2
    go_ret
    exact ⟨rfl, (Chg.refl no w).alloc _⟩

end Go.Proofs.Ytfhpdcimdeilpaa.st
