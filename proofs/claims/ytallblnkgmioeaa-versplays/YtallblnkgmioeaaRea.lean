/- The law VersReads, walked. -/
import Derived.Test.YtallblnkgmioeaaFir
import Derived.Below
namespace Go.Proofs.Ytallblnkgmioeaa.reads
open Go.ChangeShapes Go.WideShapes Go.ChangeAt Go.RowKit Go.Proofs.Ytallblnkgmioeaa.hp Go.Proofs.Ytallblnkgmioeaa.bt Go.Proofs.Ytallblnkgmioeaa.st
set_option linter.unusedVariables false
set_option linter.unusedSimpArgs false
variable {Bt : (Nat → Prop) → World → Value → List Int → Prop}

theorem parse_ok {n : Int} {b : List Int} (h : (parseI n b).2 = 0) : bytesOf (parseI n b).1 = b ∧ Bin (parseI n b).1 ∧ (parseI n b).1.length ≤ 127 := by
  unfold parseI at h ⊢
  cases hm : mayN n
  · rw [hm, if_pos rfl] at h
    cases h
  · rw [hm] at h
    simp only [Bool.true_eq_false, if_false] at h ⊢
    have hn : 1 ≤ n ∧ n ≤ 127 := of_decide_eq_true hm
    by_cases hl : b.length ≠ (n.toNat + 7) / 8
    · rw [if_pos hl] at h
      cases h
    · rw [if_neg hl] at h ⊢
      by_cases hs : bytesOf (bitsOf n.toNat b) = b
      · rw [if_pos hs]
        exact ⟨hs, bitsTo_bin _ _ _, by unfold bitsOf; simp only; rw [bitsTo_len]; omega⟩
      · rw [if_neg hs] at h
        cases h

theorem parse_err (n : Int) (b : List Int) : (parseI n b).2 = 0 ∨ (parseI n b).2 = 1 ∨ (parseI n b).2 = 2 := by
  unfold parseI
  split
  · simp
  · split
    · simp
    · split <;> simp

set_option maxRecDepth 100000 in
set_option maxHeartbeats 2000000 in
theorem many (V : Ways Bt) (w : World) (n : Int) (a : Option Addr) (l c : Nat) (hh : 1000 < l) :
    Calls Try.prog 4 #[.int .i64 n, .slice a l c] w fun e w' => e = .returned (.bool true) ∧ Below w.heap.size w w' := by
  have hi : (1000 : Int) < l := by omega
  go_enter Try.func4, Try.ntmps4
  go_wp2_with fail
  refine (first_any V _).mono ?_
  rintro e w1 ⟨rfl, k1⟩
  go_wp2_with fail
  refine (first_any V _).mono ?_
  rintro e w3 ⟨rfl, k3⟩
  go_wp2
  go_ret
  exact ⟨rfl, (k1.then k3).below⟩

set_option maxRecDepth 100000 in
set_option maxHeartbeats 4000000 in
theorem good (V : Ways Bt) (w : World) (n : Int) (a : Option Addr) (c : Nat) (b : List Int) (A : Lies (Old w) w (.slice a b.length c) (b.map (Value.int .u8))) (hb : Bytes b) (hh : b.length ≤ 1000) (h0 : (parseI n b).2 = 0) :
    Calls Try.prog 4 #[.int .i64 n, .slice a b.length c] w fun e w' => e = .returned (.bool true) ∧ Below w.heap.size w w' := by
  obtain ⟨hbo, hbin, hlen⟩ := parse_ok h0
  obtain ⟨X, hX⟩ : ∃ X, (parseI n b).1 = X := ⟨_, rfl⟩
  have HA : Hid (∀ W, Chg no w W → Lies (Old w) W (.slice a b.length c) (b.map (Value.int .u8))) := fun W k => A.chg k (fun _ _ h => h)
  have HP : Hid (∀ W, Chg no w W → Calls Try.prog 20 #[.int .i64 n, .slice a b.length c] W fun e w' => ∃ p, e = .returned (.tuple #[.pointer (some p), .int .i64 0]) ∧ Nob Bt W w' (.pointer (some p)) X) := fun W k => by
    refine (V.parse W n (HA.out W k) hb (by omega)).mono ?_
    rintro e w' ⟨pv, F, rfl, q1, _, q3⟩
    obtain ⟨r1, r2⟩ := q1 h0
    obtain ⟨p, rfl⟩ := (V.facts r1).2.2.2.1
    rw [h0]
    exact ⟨p, rfl, F, by rw [← hX]; exact r1, r2, q3⟩
  have HR : Hid (∀ W, Chg no w W → Calls Try.prog 21 #[.int .i64 n, .slice a b.length c] W fun e w' => ∃ x m y, e = .returned (.tuple #[.slice x m y, .int .i64 0]) ∧ New W X (.slice x m y) w') := fun W k => by
    refine (rparse_any W n _ b (HA.out W k) hb (by omega)).mono ?_
    rintro e w' ⟨v', rfl, N⟩
    obtain ⟨x, y, rfl⟩ := N.shape
    rw [h0]
    rw [hX] at N ⊢
    exact ⟨x, _, y, rfl, N⟩
  rw [hX] at hbo hbin hlen
  have HBO : Hid (bytesOf X = b ∧ Bytes (bytesOf X) ∧ Bytes b) := ⟨hbo, bytesOf_bytes X hbin, hb⟩
  clear h0 hX A hbo hb hbin
  obtain ⟨l, hl⟩ : ∃ l, b.length = l := ⟨_, rfl⟩
  simp only [hl] at HA HP HR hh ⊢
  clear hl
  have hi : ¬ (1000 : Int) < l := by omega
  go_enter Try.func4, Try.ntmps4
  go_wp2_with fail
  refine (first_any V _).mono ?_
  rintro e w1 ⟨rfl, k1⟩
  have HP1 := HP.out w1 k1
  go_wp2_with fail
  refine HP1.mono ?_
  rintro e w2 ⟨p, rfl, N2⟩
  have HN2 : Hid (Nob Bt w1 w2 (.pointer (some p)) X) := N2
  have K2 : Hid (Chg no w w2) := k1.then N2.chg
  have HR2 := HR.out w2 K2.out
  clear HP HP1 N2 k1
  go_wp2_with fail
  refine HR2.mono ?_
  rintro e w3 ⟨x3, m3, y3, rfl, N3⟩
  have HN3 : Hid (New w2 X (.slice x3 m3 y3) w3) := N3
  clear HR HR2 N3
  go_wp2_with fail
  refine (first_any V _).mono ?_
  rintro e w4 ⟨rfl, k4⟩
  have HN4 : Hid (New w2 X (.slice x3 m3 y3) w4) := HN3.out.chg k4
  have HO4 : Hid (Nob Bt w1 w4 (.pointer (some p)) X) := HN2.out.later V HN4.out.2
  have HBI : Hid (Calls Try.prog 16 #[.pointer (some p)] w4 fun e w' => ∃ v', e = .returned v' ∧ New w4 X v' w') := by
    obtain ⟨F, q1, q2, q3⟩ := HO4.out
    exact bits_any V w4 _ X q1
  clear HN3 k4
  go_wp2_with fail
  refine HBI.out.mono ?_
  rintro e w5 ⟨v5, rfl, N5⟩
  obtain ⟨x5, m5, y5, rfl⟩ : ∃ a m c, v5 = .slice a m c := by
    obtain ⟨a, c, e⟩ := N5.shape
    exact ⟨_, _, _, e⟩
  have HIS := ints_same w5 _ _ X N5.lies ((HN4.out.chg N5.2).lies) (by omega)
  have HO5 : Hid (Nob Bt w1 w5 (.pointer (some p)) X) := HO4.out.later V N5.2
  have K5 : Hid (Chg no w w5) := (K2.out.then HN4.out.2).then N5.2
  clear HBI N5 HN4 HO4
  go_wp2_with fail
  refine HIS.mono ?_
  rintro e w6 ⟨rfl, n6, hw6⟩
  have k6 : Chg no w5 w6 := by rw [hw6]; exact (Chg.refl no w5).drewN n6
  have HO6 : Hid (Nob Bt w1 w6 (.pointer (some p)) X) := HO5.out.later V k6
  have K6 : Hid (Chg no w w6) := K5.out.then k6
  have HBY := bytes_of' V HO6.out
  clear HIS hw6 k6 HO5 K5
  go_wp2_with fail
  refine HBY.mono ?_
  rintro e w7 ⟨v7, rfl, N7⟩
  have K7 : Hid (Chg no w w7) := K6.out.then N7.2
  obtain ⟨x7, m7, y7, rfl⟩ : ∃ a m c, v7 = .slice a m c := by
    obtain ⟨a, c, e⟩ := N7.shape
    exact ⟨_, _, _, e⟩
  have HEQ := bytes_any N7.lies (HA.out w7 K7.out) HBO.out.2.1 HBO.out.2.2
  rw [decide_eq_true HBO.out.1] at HEQ
  clear HBY N7 HO6 K6
  go_wp2_with fail
  refine HEQ.mono ?_
  rintro e w8 ⟨rfl, hw8⟩
  subst hw8
  go_wp2
  go_ret
  exact ⟨rfl, K7.out.below⟩

set_option maxRecDepth 100000 in
set_option maxHeartbeats 4000000 in
theorem bad (V : Ways Bt) (w : World) (n : Int) (a : Option Addr) (c : Nat) (b : List Int) (A : Lies (Old w) w (.slice a b.length c) (b.map (Value.int .u8))) (hb : Bytes b) (hh : b.length ≤ 1000) (h0 : (parseI n b).2 ≠ 0) :
    Calls Try.prog 4 #[.int .i64 n, .slice a b.length c] w fun e w' => e = .returned (.bool true) ∧ Below w.heap.size w w' := by
  have herr := parse_err n b
  obtain ⟨E, hE⟩ : ∃ E, (parseI n b).2 = E := ⟨_, rfl⟩
  have HA : Hid (∀ W, Chg no w W → Lies (Old w) W (.slice a b.length c) (b.map (Value.int .u8))) := fun W k => A.chg k (fun _ _ h => h)
  have HP : Hid (∀ W, Chg no w W → Calls Try.prog 20 #[.int .i64 n, .slice a b.length c] W fun e w' => e = .returned (.tuple #[.pointer none, .int .i64 E]) ∧ Chg no W w') := fun W k => by
    refine (V.parse W n (HA.out W k) hb (by omega)).mono ?_
    rintro e w' ⟨pv, F, rfl, _, q2, q3⟩
    rw [q2 h0, hE]
    exact ⟨rfl, q3⟩
  have HR : Hid (∀ W, Chg no w W → Calls Try.prog 21 #[.int .i64 n, .slice a b.length c] W fun e w' => ∃ x m y, e = .returned (.tuple #[.slice x m y, .int .i64 E]) ∧ Chg no W w') := fun W k => by
    refine (rparse_any W n _ b (HA.out W k) hb (by omega)).mono ?_
    rintro e w' ⟨v', rfl, N⟩
    obtain ⟨x, y, rfl⟩ := N.shape
    rw [hE]
    exact ⟨x, _, y, rfl, N.2⟩
  rw [hE] at h0 herr
  clear hE A hb HA
  obtain ⟨l, hl⟩ : ∃ l, b.length = l := ⟨_, rfl⟩
  simp only [hl] at HP HR hh ⊢
  clear hl
  have hi : ¬ (1000 : Int) < l := by omega
  have h12 : E = 1 ∨ E = 2 := by omega
  clear h0 herr
  rcases h12 with rfl | rfl
  all_goals
    go_enter Try.func4, Try.ntmps4
    go_wp2_with fail
    refine (first_any V _).mono ?_
    rintro e w1 ⟨rfl, k1⟩
    have HP1 := HP.out w1 k1
    go_wp2_with fail
    refine HP1.mono ?_
    rintro e w2 ⟨rfl, k2⟩
    have HR2 := HR.out w2 (k1.then k2)
    go_wp2_with fail
    refine HR2.mono ?_
    rintro e w3 ⟨x3, m3, y3, rfl, k3⟩
    go_wp2_with fail
    refine (first_any V _).mono ?_
    rintro e w4 ⟨rfl, k4⟩
    go_wp2
    go_ret
    exact ⟨rfl, (((k1.then k2).then k3).then k4).below⟩

end Go.Proofs.Ytallblnkgmioeaa.reads
