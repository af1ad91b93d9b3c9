/- The law LaySums, walked. -/
import Derived.Test.YtfhpdcimdeilpaaBap
import Derived.Test.YtfhpdcimdeilpaaIct
namespace Go.Proofs.Ytfhpdcimdeilpaa.sums
open Go.ChangeShapes Go.WideShapes Go.ChangeAt Go.RowKit Go.Proofs.Ytfhpdcimdeilpaa.hp Go.Proofs.Ytfhpdcimdeilpaa.st Go.Proofs.Ytfhpdcimdeilpaa.tells
set_option linter.unusedVariables false
set_option linter.unusedSimpArgs false

theorem check_cells {K : Cf} (q : Nat) : (checkA K (q : Int)).2 = if q % K.p = 0 then (cFull K : Int) else (cDelta K : Int) := by
  by_cases h : q % K.p = 0
  · rw [if_pos h, check_full q h]
    unfold fullA
    rw [if_pos (by omega)]
  · rw [if_neg h, check_delta q h]
    unfold deltaA
    rw [Int.toNat_natCast, if_pos ⟨by omega, h⟩]

theorem tick_next {K : Cf} (hK : okC K) (q : Nat) : tickA K ((q + K.p : Nat) : Int) = tickA K (q : Int) := by
  unfold tickA
  rw [if_pos (Int.natCast_nonneg _), if_pos (Int.natCast_nonneg _), check_cells, check_cells, (per1 q hK.p.1).2]

theorem tick_eq (K : Cf) (q : Nat) : tickA K (q : Int) = (K.r : Int) + 1 + ((slotsN K : Nat) : Int) * ((cLog K : Nat) : Int) + 2 * ((slotsN K : Nat) : Int) * ((K.h : Int) + 1) + (checkA K (q : Int)).2 + ((cClog K : Nat) : Int) + 3 := by
  unfold tickA
  rw [if_pos (by omega)]

theorem rec_eq {K : Cf} (hK : okC K) (i : Nat) (j : Int) (hj : 0 ≤ j) : recA K (i : Int) j = 4 + ((cFull K : Nat) : Int) + ((i % K.p : Nat) : Int) * ((cDelta K : Nat) : Int) + ((slotsN K : Nat) : Int) * ((cLog K : Nat) : Int) + ((cClog K : Nat) : Int) + 2 * j * ((K.h : Int) + 1) + (checkA K ((i : Int) + 1)).2 + 3 := by
  have hp := hK.p
  have e : ((i % K.p : Nat) : Int) * (deltaA K 1).2 = ((i % K.p : Nat) : Int) * ((cDelta K : Nat) : Int) := by
    by_cases h : K.p = 1
    · rw [h, Nat.mod_one]
      simp
    · have h1 : (1 : Int).toNat % K.p ≠ 0 := by
        show 1 % K.p ≠ 0
        rw [Nat.mod_eq_of_lt (by omega)]
        decide
      unfold deltaA
      rw [if_pos ⟨by omega, h1⟩]
  unfold recA
  rw [if_pos ⟨by omega, hj⟩, Int.toNat_natCast, e]

set_option maxRecDepth 100000 in
set_option maxHeartbeats 8000000 in
theorem nay (V : Ways) (w : World) (I : Ic) (a : Option Addr) (len c : Nat) (A : Nat → Option Addr) (C : Nat → Nat) (Z : Nat → List Int) (R : Rws w a len A C Z) (hlen : len ≤ maxLen) (hM : ¬ mayP I len Z) (i j : Int)  :
    Calls Try.prog 5 #[cfgI I (.slice a len c), .int .i64 i, .int .i64 j] w fun e w' => e = .returned (.bool true) ∧ Below w.heap.size w w' := by
  have HF : Hid (∀ W, Chg no w W → Calls Try.prog 8 #[cfgI I (.slice a len c)] W (FewRes len Z W)) := fun W k => few_any W I a len c A C Z hlen (Rws.chg R k)
  have HP : Hid (∀ W, Chg no w W → Calls Try.prog 10 #[cfgI I (.slice a len c)] W fun e w' => e = .returned (.bool false) ∧ Chg no W w') := fun W k => V.may W I a len c A C Z (Rws.chg R k) hlen false (by simp [hM])
  obtain ⟨h, z, b, r, rd, wt, s, p, q, t⟩ := I
  clear R hlen hM
  go_enter Try.func5, Try.ntmps5
  go_wp2_with fail
  obtain ⟨w1, hw1⟩ : ∃ w1, w.alloc (cfgOI h z b r rd wt s p q t (.slice a len c)) = w1 := ⟨_, rfl⟩
  have hb : w1.heap[w.heap.size]? = some (cfgOI h z b r rd wt s p q t (.slice a len c)) := by rw [← hw1]; exact heap_alloc_new w _
  have K1 : Hid (Chg no w w1) := by rw [← hw1]; exact (Chg.refl no w).alloc _
  rw [hw1]
  obtain ⟨g, hg⟩ : ∃ g, w.heap.size = g := ⟨_, rfl⟩
  rw [hg] at hb ⊢
  have HB : Hid (∀ W, Chg no w1 W → W.heap[g]? = some (cfgOI h z b r rd wt s p q t (.slice a len c))) := fun W k => k.heap hb id
  clear hw1 hg hb
  refine (first_any V _).mono ?_
  rintro e w2 ⟨rfl, k2⟩
  have K2 : Hid (Chg no w1 w2) := k2
  obtain ⟨c0, c1, c2, c3, c4, c5, c6, c7, c8, c9, c10⟩ := cfgI_cells (HB.out w2 k2)
  have HF2 := HF.out w2 (K1.out.then k2)
  clear k2 HF
  go_wp2_with fail
  refine HF2.mono ?_
  rintro e w3 ⟨B, rfl, k3, hB⟩
  have K3 : Hid (Chg no w1 w3) := K2.out.then k3
  clear HF2 k3 hB c0 c1 c2 c3 c4 c5 c6 c7 c8 c9 c10 K2
  cases B
  · go_wp2_with fail
    refine (first_any V _).mono ?_
    rintro e w4 ⟨rfl, k4⟩
    go_wp2
    go_ret
    exact ⟨rfl, ((K1.out.then K3.out).then k4).below⟩
  obtain ⟨c0, c1, c2, c3, c4, c5, c6, c7, c8, c9, c10⟩ := cfgI_cells (HB.out w3 K3.out)
  have HP3 := HP.out w3 (K1.out.then K3.out)
  go_wp2_with fail
  refine HP3.mono ?_
  rintro e w4 ⟨rfl, k4⟩
  have K4 : Hid (Chg no w1 w4) := K3.out.then k4
  clear HP3 k4 c0 c1 c2 c3 c4 c5 c6 c7 c8 c9 c10 K3
  go_wp2_with fail
  refine (first_any V _).mono ?_
  rintro e w5 ⟨rfl, k5⟩
  go_wp2
  go_ret
  exact ⟨rfl, ((K1.out.then K4.out).then k5).below⟩

set_option maxRecDepth 100000 in
set_option maxHeartbeats 8000000 in
theorem low (V : Ways) (w : World) (I : Ic) (a : Option Addr) (len c : Nat) (A : Nat → Option Addr) (C : Nat → Nat) (Z : Nat → List Int) (R : Rws w a len A C Z) (hlen : len ≤ maxLen) (hM : mayP I len Z) (i j : Int) (hi : i < 0) :
    Calls Try.prog 5 #[cfgI I (.slice a len c), .int .i64 i, .int .i64 j] w fun e w' => e = .returned (.bool true) ∧ Below w.heap.size w w' := by
  have HF : Hid (∀ W, Chg no w W → Calls Try.prog 8 #[cfgI I (.slice a len c)] W (FewRes len Z W)) := fun W k => few_any W I a len c A C Z hlen (Rws.chg R k)
  have HP : Hid (∀ W, Chg no w W → Calls Try.prog 10 #[cfgI I (.slice a len c)] W fun e w' => e = .returned (.bool true) ∧ Chg no W w') := fun W k => V.may W I a len c A C Z (Rws.chg R k) hlen true (by simp [hM])
  obtain ⟨h, z, b, r, rd, wt, s, p, q, t⟩ := I
  clear R hlen hM
  go_enter Try.func5, Try.ntmps5
  go_wp2_with fail
  obtain ⟨w1, hw1⟩ : ∃ w1, w.alloc (cfgOI h z b r rd wt s p q t (.slice a len c)) = w1 := ⟨_, rfl⟩
  have hb : w1.heap[w.heap.size]? = some (cfgOI h z b r rd wt s p q t (.slice a len c)) := by rw [← hw1]; exact heap_alloc_new w _
  have K1 : Hid (Chg no w w1) := by rw [← hw1]; exact (Chg.refl no w).alloc _
  rw [hw1]
  obtain ⟨g, hg⟩ : ∃ g, w.heap.size = g := ⟨_, rfl⟩
  rw [hg] at hb ⊢
  have HB : Hid (∀ W, Chg no w1 W → W.heap[g]? = some (cfgOI h z b r rd wt s p q t (.slice a len c))) := fun W k => k.heap hb id
  clear hw1 hg hb
  refine (first_any V _).mono ?_
  rintro e w2 ⟨rfl, k2⟩
  have K2 : Hid (Chg no w1 w2) := k2
  obtain ⟨c0, c1, c2, c3, c4, c5, c6, c7, c8, c9, c10⟩ := cfgI_cells (HB.out w2 k2)
  have HF2 := HF.out w2 (K1.out.then k2)
  clear k2 HF
  go_wp2_with fail
  refine HF2.mono ?_
  rintro e w3 ⟨B, rfl, k3, hB⟩
  have K3 : Hid (Chg no w1 w3) := K2.out.then k3
  clear HF2 k3 hB c0 c1 c2 c3 c4 c5 c6 c7 c8 c9 c10 K2
  cases B
  · go_wp2_with fail
    refine (first_any V _).mono ?_
    rintro e w4 ⟨rfl, k4⟩
    go_wp2
    go_ret
    exact ⟨rfl, ((K1.out.then K3.out).then k4).below⟩
  obtain ⟨c0, c1, c2, c3, c4, c5, c6, c7, c8, c9, c10⟩ := cfgI_cells (HB.out w3 K3.out)
  have HP3 := HP.out w3 (K1.out.then K3.out)
  go_wp2_with fail
  refine HP3.mono ?_
  rintro e w4 ⟨rfl, k4⟩
  have K4 : Hid (Chg no w1 w4) := K3.out.then k4
  clear HP3 k4 c0 c1 c2 c3 c4 c5 c6 c7 c8 c9 c10 K3
  go_wp2_with fail
  refine (first_any V _).mono ?_
  rintro e w5 ⟨rfl, k5⟩
  go_wp2
  go_ret
  exact ⟨rfl, ((K1.out.then K4.out).then k5).below⟩

set_option maxRecDepth 100000 in
set_option maxHeartbeats 8000000 in
theorem high (V : Ways) (w : World) (I : Ic) (a : Option Addr) (len c : Nat) (A : Nat → Option Addr) (C : Nat → Nat) (Z : Nat → List Int) (R : Rws w a len A C Z) (hlen : len ≤ maxLen) (hM : mayP I len Z) (i j : Int) (hi : 1099511627776 < i) :
    Calls Try.prog 5 #[cfgI I (.slice a len c), .int .i64 i, .int .i64 j] w fun e w' => e = .returned (.bool true) ∧ Below w.heap.size w w' := by
  have HF : Hid (∀ W, Chg no w W → Calls Try.prog 8 #[cfgI I (.slice a len c)] W (FewRes len Z W)) := fun W k => few_any W I a len c A C Z hlen (Rws.chg R k)
  have HP : Hid (∀ W, Chg no w W → Calls Try.prog 10 #[cfgI I (.slice a len c)] W fun e w' => e = .returned (.bool true) ∧ Chg no W w') := fun W k => V.may W I a len c A C Z (Rws.chg R k) hlen true (by simp [hM])
  obtain ⟨h, z, b, r, rd, wt, s, p, q, t⟩ := I
  clear R hlen hM
  have hi0 : ¬ i < 0 := by omega
  go_enter Try.func5, Try.ntmps5
  go_wp2_with fail
  obtain ⟨w1, hw1⟩ : ∃ w1, w.alloc (cfgOI h z b r rd wt s p q t (.slice a len c)) = w1 := ⟨_, rfl⟩
  have hb : w1.heap[w.heap.size]? = some (cfgOI h z b r rd wt s p q t (.slice a len c)) := by rw [← hw1]; exact heap_alloc_new w _
  have K1 : Hid (Chg no w w1) := by rw [← hw1]; exact (Chg.refl no w).alloc _
  rw [hw1]
  obtain ⟨g, hg⟩ : ∃ g, w.heap.size = g := ⟨_, rfl⟩
  rw [hg] at hb ⊢
  have HB : Hid (∀ W, Chg no w1 W → W.heap[g]? = some (cfgOI h z b r rd wt s p q t (.slice a len c))) := fun W k => k.heap hb id
  clear hw1 hg hb
  refine (first_any V _).mono ?_
  rintro e w2 ⟨rfl, k2⟩
  have K2 : Hid (Chg no w1 w2) := k2
  obtain ⟨c0, c1, c2, c3, c4, c5, c6, c7, c8, c9, c10⟩ := cfgI_cells (HB.out w2 k2)
  have HF2 := HF.out w2 (K1.out.then k2)
  clear k2 HF
  go_wp2_with fail
  refine HF2.mono ?_
  rintro e w3 ⟨B, rfl, k3, hB⟩
  have K3 : Hid (Chg no w1 w3) := K2.out.then k3
  clear HF2 k3 hB c0 c1 c2 c3 c4 c5 c6 c7 c8 c9 c10 K2
  cases B
  · go_wp2_with fail
    refine (first_any V _).mono ?_
    rintro e w4 ⟨rfl, k4⟩
    go_wp2
    go_ret
    exact ⟨rfl, ((K1.out.then K3.out).then k4).below⟩
  obtain ⟨c0, c1, c2, c3, c4, c5, c6, c7, c8, c9, c10⟩ := cfgI_cells (HB.out w3 K3.out)
  have HP3 := HP.out w3 (K1.out.then K3.out)
  go_wp2_with fail
  refine HP3.mono ?_
  rintro e w4 ⟨rfl, k4⟩
  have K4 : Hid (Chg no w1 w4) := K3.out.then k4
  clear HP3 k4 c0 c1 c2 c3 c4 c5 c6 c7 c8 c9 c10 K3
  go_wp2_with fail
  refine (first_any V _).mono ?_
  rintro e w5 ⟨rfl, k5⟩
  go_wp2
  go_ret
  exact ⟨rfl, ((K1.out.then K4.out).then k5).below⟩

set_option maxRecDepth 100000 in
set_option maxHeartbeats 8000000 in
theorem low2 (V : Ways) (w : World) (I : Ic) (a : Option Addr) (len c : Nat) (A : Nat → Option Addr) (C : Nat → Nat) (Z : Nat → List Int) (R : Rws w a len A C Z) (hlen : len ≤ maxLen) (hM : mayP I len Z) (i j : Int) (hi : 0 ≤ i) (hi2 : i ≤ 1099511627776) (hj : j < 0) :
    Calls Try.prog 5 #[cfgI I (.slice a len c), .int .i64 i, .int .i64 j] w fun e w' => e = .returned (.bool true) ∧ Below w.heap.size w w' := by
  have HF : Hid (∀ W, Chg no w W → Calls Try.prog 8 #[cfgI I (.slice a len c)] W (FewRes len Z W)) := fun W k => few_any W I a len c A C Z hlen (Rws.chg R k)
  have HP : Hid (∀ W, Chg no w W → Calls Try.prog 10 #[cfgI I (.slice a len c)] W fun e w' => e = .returned (.bool true) ∧ Chg no W w') := fun W k => V.may W I a len c A C Z (Rws.chg R k) hlen true (by simp [hM])
  obtain ⟨h, z, b, r, rd, wt, s, p, q, t⟩ := I
  clear R hlen hM
  have hi0 : ¬ i < 0 := by omega
  have hi1 : ¬ 1099511627776 < i := by omega
  go_enter Try.func5, Try.ntmps5
  go_wp2_with fail
  obtain ⟨w1, hw1⟩ : ∃ w1, w.alloc (cfgOI h z b r rd wt s p q t (.slice a len c)) = w1 := ⟨_, rfl⟩
  have hb : w1.heap[w.heap.size]? = some (cfgOI h z b r rd wt s p q t (.slice a len c)) := by rw [← hw1]; exact heap_alloc_new w _
  have K1 : Hid (Chg no w w1) := by rw [← hw1]; exact (Chg.refl no w).alloc _
  rw [hw1]
  obtain ⟨g, hg⟩ : ∃ g, w.heap.size = g := ⟨_, rfl⟩
  rw [hg] at hb ⊢
  have HB : Hid (∀ W, Chg no w1 W → W.heap[g]? = some (cfgOI h z b r rd wt s p q t (.slice a len c))) := fun W k => k.heap hb id
  clear hw1 hg hb
  refine (first_any V _).mono ?_
  rintro e w2 ⟨rfl, k2⟩
  have K2 : Hid (Chg no w1 w2) := k2
  obtain ⟨c0, c1, c2, c3, c4, c5, c6, c7, c8, c9, c10⟩ := cfgI_cells (HB.out w2 k2)
  have HF2 := HF.out w2 (K1.out.then k2)
  clear k2 HF
  go_wp2_with fail
  refine HF2.mono ?_
  rintro e w3 ⟨B, rfl, k3, hB⟩
  have K3 : Hid (Chg no w1 w3) := K2.out.then k3
  clear HF2 k3 hB c0 c1 c2 c3 c4 c5 c6 c7 c8 c9 c10 K2
  cases B
  · go_wp2_with fail
    refine (first_any V _).mono ?_
    rintro e w4 ⟨rfl, k4⟩
    go_wp2
    go_ret
    exact ⟨rfl, ((K1.out.then K3.out).then k4).below⟩
  obtain ⟨c0, c1, c2, c3, c4, c5, c6, c7, c8, c9, c10⟩ := cfgI_cells (HB.out w3 K3.out)
  have HP3 := HP.out w3 (K1.out.then K3.out)
  go_wp2_with fail
  refine HP3.mono ?_
  rintro e w4 ⟨rfl, k4⟩
  have K4 : Hid (Chg no w1 w4) := K3.out.then k4
  clear HP3 k4 c0 c1 c2 c3 c4 c5 c6 c7 c8 c9 c10 K3
  go_wp2_with fail
  refine (first_any V _).mono ?_
  rintro e w5 ⟨rfl, k5⟩
  go_wp2
  go_ret
  exact ⟨rfl, ((K1.out.then K4.out).then k5).below⟩

set_option maxRecDepth 100000 in
set_option maxHeartbeats 8000000 in
theorem high2 (V : Ways) (w : World) (I : Ic) (a : Option Addr) (len c : Nat) (A : Nat → Option Addr) (C : Nat → Nat) (Z : Nat → List Int) (R : Rws w a len A C Z) (hlen : len ≤ maxLen) (hM : mayP I len Z) (i j : Int) (hi : 0 ≤ i) (hi2 : i ≤ 1099511627776) (hj : 1000 < j) :
    Calls Try.prog 5 #[cfgI I (.slice a len c), .int .i64 i, .int .i64 j] w fun e w' => e = .returned (.bool true) ∧ Below w.heap.size w w' := by
  have HF : Hid (∀ W, Chg no w W → Calls Try.prog 8 #[cfgI I (.slice a len c)] W (FewRes len Z W)) := fun W k => few_any W I a len c A C Z hlen (Rws.chg R k)
  have HP : Hid (∀ W, Chg no w W → Calls Try.prog 10 #[cfgI I (.slice a len c)] W fun e w' => e = .returned (.bool true) ∧ Chg no W w') := fun W k => V.may W I a len c A C Z (Rws.chg R k) hlen true (by simp [hM])
  obtain ⟨h, z, b, r, rd, wt, s, p, q, t⟩ := I
  clear R hlen hM
  have hi0 : ¬ i < 0 := by omega
  have hi1 : ¬ 1099511627776 < i := by omega
  have hj0 : ¬ j < 0 := by omega
  go_enter Try.func5, Try.ntmps5
  go_wp2_with fail
  obtain ⟨w1, hw1⟩ : ∃ w1, w.alloc (cfgOI h z b r rd wt s p q t (.slice a len c)) = w1 := ⟨_, rfl⟩
  have hb : w1.heap[w.heap.size]? = some (cfgOI h z b r rd wt s p q t (.slice a len c)) := by rw [← hw1]; exact heap_alloc_new w _
  have K1 : Hid (Chg no w w1) := by rw [← hw1]; exact (Chg.refl no w).alloc _
  rw [hw1]
  obtain ⟨g, hg⟩ : ∃ g, w.heap.size = g := ⟨_, rfl⟩
  rw [hg] at hb ⊢
  have HB : Hid (∀ W, Chg no w1 W → W.heap[g]? = some (cfgOI h z b r rd wt s p q t (.slice a len c))) := fun W k => k.heap hb id
  clear hw1 hg hb
  refine (first_any V _).mono ?_
  rintro e w2 ⟨rfl, k2⟩
  have K2 : Hid (Chg no w1 w2) := k2
  obtain ⟨c0, c1, c2, c3, c4, c5, c6, c7, c8, c9, c10⟩ := cfgI_cells (HB.out w2 k2)
  have HF2 := HF.out w2 (K1.out.then k2)
  clear k2 HF
  go_wp2_with fail
  refine HF2.mono ?_
  rintro e w3 ⟨B, rfl, k3, hB⟩
  have K3 : Hid (Chg no w1 w3) := K2.out.then k3
  clear HF2 k3 hB c0 c1 c2 c3 c4 c5 c6 c7 c8 c9 c10 K2
  cases B
  · go_wp2_with fail
    refine (first_any V _).mono ?_
    rintro e w4 ⟨rfl, k4⟩
    go_wp2
    go_ret
    exact ⟨rfl, ((K1.out.then K3.out).then k4).below⟩
  obtain ⟨c0, c1, c2, c3, c4, c5, c6, c7, c8, c9, c10⟩ := cfgI_cells (HB.out w3 K3.out)
  have HP3 := HP.out w3 (K1.out.then K3.out)
  go_wp2_with fail
  refine HP3.mono ?_
  rintro e w4 ⟨rfl, k4⟩
  have K4 : Hid (Chg no w1 w4) := K3.out.then k4
  clear HP3 k4 c0 c1 c2 c3 c4 c5 c6 c7 c8 c9 c10 K3
  go_wp2_with fail
  refine (first_any V _).mono ?_
  rintro e w5 ⟨rfl, k5⟩
  go_wp2
  go_ret
  exact ⟨rfl, ((K1.out.then K4.out).then k5).below⟩

set_option maxRecDepth 100000 in
set_option maxHeartbeats 16000000 in
theorem all (V : Ways) (w : World) (K : Cf) (hK : okC K) (a : Option Addr) (len c : Nat) (A : Nat → Option Addr) (C : Nat → Nat) (Z : Nat → List Int) (R : Rws w a len A C Z) (hlen : len ≤ maxLen) (hM : mayP (intC K) len Z) (i j : Nat) (hi : (i : Int) ≤ 1099511627776) (hj : (j : Int) ≤ 1000) :
    Calls Try.prog 5 #[cfgV K (.slice a len c), .int .i64 (i : Int), .int .i64 (j : Int)] w fun e w' => e = .returned (.bool true) ∧ Below w.heap.size w w' := by
  have HF : Hid (∀ W, Chg no w W → Calls Try.prog 8 #[cfgV K (.slice a len c)] W (FewRes len Z W)) := fun W k => few_any W (intC K) a len c A C Z hlen (Rws.chg R k)
  have HO : Hid (∀ W, Chg no w W → Calls Try.prog 9 #[cfgV K (.slice a len c)] W fun e w' => ∃ a' n' c', e = .returned (.tuple #[layV K (.slice a' n' c'), .int .i64 0]) ∧ Chg no W w') := fun W k => by
    have := V.of1 W (intC K) a len c A C Z (Rws.chg R k) hlen hM
    rw [natC_intC] at this
    exact this
  have HP : Hid (∀ W, Chg no w W → Calls Try.prog 10 #[cfgV K (.slice a len c)] W fun e w' => e = .returned (.bool true) ∧ Chg no W w') := fun W k => V.may W (intC K) a len c A C Z (Rws.chg R k) hlen true (by simp [hM])
  have HFi : Hid (∀ W, Calls Try.prog 7 #[] W fun e w' => e = .returned (.bool true) ∧ Chg no W w') := fun W => first_any V W
  have HP16 : Hid (∀ W a' n' c', Calls Try.prog 16 #[layV K (.slice a' n' c')] W fun e w' => e = .returned (.int .i64 ((slotsN K : Nat) : Int)) ∧ Chg no W w') := fun W a' n' c' => V.slots W K hK a' n' c'
  have HP28 : Hid (∀ (x : Int), x ≤ 4611686018427387904 → ∀ W a' n' c', Calls Try.prog 28 #[layV K (.slice a' n' c'), .int .i64 x] W fun e w' => e = .returned (areaV (logA K x)) ∧ Chg no W w') := fun x hx W a' n' c' => V.log W K hK a' n' c' x hx
  have HP32 : Hid (∀ (x : Int), x ≤ 4611686018427387904 → ∀ W a' n' c', Calls Try.prog 32 #[layV K (.slice a' n' c'), .int .i64 x] W fun e w' => e = .returned (areaV (deltaA K x)) ∧ Chg no W w') := fun x hx W a' n' c' => V.delta W K hK a' n' c' x hx
  have HP46 : Hid (∀ W a' n' c', Calls Try.prog 46 #[layV K (.slice a' n' c')] W fun e w' => e = .returned (.int .i64 ((5 + cFull K : Nat) : Int)) ∧ Chg no W w') := fun W a' n' c' => V.make W K hK a' n' c'
  have HP36 : Hid (∀ W a' n' c', Calls Try.prog 36 #[layV K (.slice a' n' c'), .int .i64 (i : Int)] W fun e w' => e = .returned (areaV (checkA K (i : Int))) ∧ Chg no W w') := fun W a' n' c' => V.check W K hK a' n' c' (i : Int) (by omega)
  have HP36' : Hid (∀ W a' n' c', Calls Try.prog 36 #[layV K (.slice a' n' c'), .int .i64 ((i : Int) + 1)] W fun e w' => e = .returned (areaV (checkA K ((i : Int) + 1))) ∧ Chg no W w') := fun W a' n' c' => V.check W K hK a' n' c' ((i : Int) + 1) (by omega)
  have HP30 : Hid (∀ W a' n' c', Calls Try.prog 30 #[layV K (.slice a' n' c'), .int .i64 (i : Int)] W fun e w' => e = .returned (areaV (clogA K (i : Int))) ∧ Chg no W w') := fun W a' n' c' => V.clog W K hK a' n' c' (i : Int) (by omega)
  have HP30' : Hid (∀ W a' n' c', Calls Try.prog 30 #[layV K (.slice a' n' c'), .int .i64 0] W fun e w' => e = .returned (areaV (clogA K 0)) ∧ Chg no W w') := fun W a' n' c' => V.clog W K hK a' n' c' 0 (by omega)
  have HP34 : Hid (∀ W a' n' c', Calls Try.prog 34 #[layV K (.slice a' n' c'), .int .i64 0] W fun e w' => e = .returned (areaV (fullA K 0)) ∧ Chg no W w') := fun W a' n' c' => V.full W K hK a' n' c' 0 (by omega)
  have HP42 : Hid (∀ W a' n' c', Calls Try.prog 42 #[layV K (.slice a' n' c'), .int .i64 (i : Int)] W fun e w' => e = .returned (.int .i64 (tickA K (i : Int))) ∧ Chg no W w') := fun W a' n' c' => V.tick W K hK a' n' c' (i : Int) (by omega)
  have hp8 := hK.p
  have HP42' : Hid (∀ W a' n' c', Calls Try.prog 42 #[layV K (.slice a' n' c'), .int .i64 ((i : Int) + (K.p : Int))] W fun e w' => e = .returned (.int .i64 (tickA K (i : Int))) ∧ Chg no W w') := fun W a' n' c' => by
    have := V.tick W K hK a' n' c' ((i : Int) + (K.p : Int)) (by omega)
    have e : (i : Int) + (K.p : Int) = ((i + K.p : Nat) : Int) := by omega
    rw [e] at this ⊢
    rw [tick_next hK i] at this
    exact this
  have HP44 : Hid (∀ W a' n' c', Calls Try.prog 44 #[layV K (.slice a' n' c'), .int .i64 (i : Int), .int .i64 (j : Int)] W fun e w' => e = .returned (.int .i64 (recA K (i : Int) (j : Int))) ∧ Chg no W w') := fun W a' n' c' => V.recov W K hK a' n' c' (i : Int) (j : Int) (by omega) (by omega)
  have HP44' : Hid (∀ W a' n' c', Calls Try.prog 44 #[layV K (.slice a' n' c'), .int .i64 (i : Int), .int .i64 ((j : Int) + 1)] W fun e w' => e = .returned (.int .i64 (recA K (i : Int) ((j : Int) + 1))) ∧ Chg no W w') := fun W a' n' c' => V.recov W K hK a' n' c' (i : Int) ((j : Int) + 1) (by omega) (by omega)
  have sm := small hK
  obtain ⟨_, hS, hS2⟩ := slots_le hK
  have hh := hK.h
  have hr := hK.r
  obtain ⟨hc1, hc2⟩ := check_le hK (i : Int)
  obtain ⟨hc3, hc4⟩ := check_le hK ((i : Int) + 1)
  have hcl : (clogA K (i : Int)).2 = cClog K := by unfold clogA; rw [if_pos (by omega)]
  have hcl0 : (clogA K 0).2 = cClog K := by unfold clogA; rw [if_pos (by omega)]
  have hfu0 : (fullA K 0).2 = cFull K := by unfold fullA; rw [if_pos (by omega)]
  have hmod := Nat.mod_lt i hp8.1
  have htk := tick_eq K i
  have hrk := rec_eq hK i (j : Int) (by omega)
  have hrk1 := rec_eq hK i ((j : Int) + 1) (by omega)
  obtain ⟨f1, f2, f3, f4⟩ := sm
  obtain ⟨S, hSS⟩ : ∃ x, slotsN K = x := ⟨_, rfl⟩
  obtain ⟨M, hMM⟩ : ∃ x, cClog K = x := ⟨_, rfl⟩
  obtain ⟨Fu, hFF⟩ : ∃ x, cFull K = x := ⟨_, rfl⟩
  obtain ⟨D, hDD⟩ : ∃ x, cDelta K = x := ⟨_, rfl⟩
  obtain ⟨cu, hcu⟩ : ∃ x, (checkA K (i : Int)).1 = x := ⟨_, rfl⟩
  obtain ⟨cv, hcv⟩ : ∃ x, (checkA K (i : Int)).2 = x := ⟨_, rfl⟩
  obtain ⟨eu, heu⟩ : ∃ x, (checkA K ((i : Int) + 1)).1 = x := ⟨_, rfl⟩
  obtain ⟨ev, hev⟩ : ∃ x, (checkA K ((i : Int) + 1)).2 = x := ⟨_, rfl⟩
  obtain ⟨gu, hgu⟩ : ∃ x, (clogA K (i : Int)).1 = x := ⟨_, rfl⟩
  obtain ⟨ku, hku⟩ : ∃ x, (clogA K 0).1 = x := ⟨_, rfl⟩
  obtain ⟨lu, hlu⟩ : ∃ x, (fullA K 0).1 = x := ⟨_, rfl⟩
  obtain ⟨TI, hTI⟩ : ∃ x, tickA K (i : Int) = x := ⟨_, rfl⟩
  obtain ⟨RJ, hRJ⟩ : ∃ x, recA K (i : Int) (j : Int) = x := ⟨_, rfl⟩
  obtain ⟨RK, hRK⟩ : ∃ x, recA K (i : Int) ((j : Int) + 1) = x := ⟨_, rfl⟩
  obtain ⟨mm, hmm⟩ : ∃ x, i % K.p = x := ⟨_, rfl⟩
  simp only [areaV, f1, hSS, hMM, hFF, hDD, hcu, hcv, heu, hev, hgu, hku, hlu, hTI, hRJ, hRK, hcl, hcl0, hfu0, hmm] at HP16 HP46 HP36 HP36' HP30 HP30' HP34 HP42 HP42' HP44 HP44' hS hS2 hc1 hc2 hc3 hc4 htk hrk hrk1 f2 f3 f4 hmod
  have HK : Hid (okC K) := hK
  have HSS : Hid (slotsN K = S) := hSS
  have HDD : Hid (cDelta K = D) := hDD
  have HF1 : Hid (cLog K = 1) := f1
  have HMM : Hid (i % K.p = mm) := hmm
  obtain ⟨H, hH⟩ : ∃ H : Nat, K.h + 1 = H := ⟨_, rfl⟩
  have hHi : (K.h : Int) + 1 = (H : Int) := by omega
  have hH7 : (H : Int) ≤ 7 := by omega
  obtain ⟨X, hX⟩ : ∃ X : Nat, 2 * H * S = X := ⟨_, rfl⟩
  have hXi : 2 * (H : Int) * (S : Int) = (X : Int) := by rw [← hX, Int.natCast_mul, Int.natCast_mul]; rfl
  have hX2 : (X : Int) ≤ 560 := by
    have : 2 * H * S ≤ 14 * 40 := Nat.mul_le_mul (by omega) hS
    omega
  obtain ⟨Y, hY⟩ : ∃ Y : Nat, 2 * H * j = Y := ⟨_, rfl⟩
  have hYi : 2 * (H : Int) * (j : Int) = (Y : Int) := by rw [← hY, Int.natCast_mul, Int.natCast_mul]; rfl
  have hY2 : (Y : Int) ≤ 14000 := by
    have : 2 * H * j ≤ 14 * 1000 := Nat.mul_le_mul (by omega) (by omega)
    omega
  obtain ⟨Q, hQ⟩ : ∃ Q : Nat, mm * D = Q := ⟨_, rfl⟩
  have HQ : Hid (mm * D = Q) := hQ
  have hQ2 : Q ≤ 525 := by
    have : mm * D ≤ 7 * 75 := Nat.mul_le_mul (by omega) f3.2
    omega
  have e1 : 2 * (j : Int) * (H : Int) = (Y : Int) := by rw [Int.mul_right_comm]; exact hYi
  have e2 : 2 * ((j : Int) + 1) * (H : Int) = (Y : Int) + 2 * (H : Int) := by rw [Int.mul_add, Int.add_mul, e1, Int.mul_one]
  have e3 : 2 * (S : Int) * (H : Int) = (X : Int) := by rw [Int.mul_right_comm]; exact hXi
  have e4 : (mm : Int) * (D : Int) = (Q : Int) := by rw [← hQ, Int.natCast_mul]
  have htk' : Hid (TI = (K.r : Int) + 1 + (S : Int) + (X : Int) + cv + (M : Int) + 3) := by
    show _ = _
    rw [htk, hHi, e3]
    omega
  have hrk' : Hid (RJ = 4 + (Fu : Int) + (Q : Int) + (S : Int) + (M : Int) + (Y : Int) + ev + 3) := by
    show _ = _
    rw [hrk, hHi, e1, e4]
    omega
  have hrk1' : Hid (RK = 4 + (Fu : Int) + (Q : Int) + (S : Int) + (M : Int) + ((Y : Int) + 2 * (H : Int)) + ev + 3) := by
    show _ = _
    rw [hrk1, hHi, e2, e4]
    omega
  obtain ⟨T5, hT5'⟩ : ∃ x, 5 + Fu = x := ⟨_, rfl⟩
  simp only [hT5'] at HP46
  have hT5 : (Fu : Int) + 5 = (T5 : Int) := by omega
  have z1 : (S : Int) ≤ 40 := by omega
  have z2 : (M : Int) ≤ 9 := by omega
  have z3 : (Fu : Int) ≤ 92 := by omega
  have z4 : (D : Int) ≤ 75 := by omega
  have z5 : (Q : Int) ≤ 525 := by omega
  have z6 : (K.r : Int) ≤ 4 := by omega
  have z7 : (K.h : Int) ≤ 6 := by omega
  have z8 : (K.p : Int) ≤ 8 := by omega
  have z9 : 1 ≤ (K.p : Int) := by omega
  have z10 : (mm : Int) ≤ 7 := by omega
  have hi0 : ¬ (i : Int) < 0 := by omega
  have hi1 : ¬ (1099511627776 : Int) < i := by omega
  have hj0 : ¬ (j : Int) < 0 := by omega
  have hj1 : ¬ (1000 : Int) < j := by omega
  have hr0 : (i : Int).tmod (K.p : Int) = (mm : Int) := by
    have : (i : Int).tmod (K.p : Int) = ((i % K.p : Nat) : Int) := rfl
    rw [this, hmm]
  have hp0 : (K.p : Int) ≠ 0 := by omega
  have hmle : mm ≤ i := by rw [← hmm]; exact Nat.mod_le _ _
  have fl1 : ∀ w, (Instr.field 39 (.agg #[.int .i64 cu, .int .i64 cv]) 1).run Try.prog w = .ok (.int .i64 cv) w := fun _ => by kernel_rfl
  have fl2 : ∀ w, (Instr.field 39 (.agg #[.int .i64 eu, .int .i64 ev]) 1).run Try.prog w = .ok (.int .i64 ev) w := fun _ => by kernel_rfl
  have fl3 : ∀ w, (Instr.field 39 (.agg #[.int .i64 gu, .int .i64 (M : Int)]) 1).run Try.prog w = .ok (.int .i64 (M : Int)) w := fun _ => by kernel_rfl
  have fl4 : ∀ w, (Instr.field 39 (.agg #[.int .i64 ku, .int .i64 (M : Int)]) 1).run Try.prog w = .ok (.int .i64 (M : Int)) w := fun _ => by kernel_rfl
  have fl5 : ∀ w, (Instr.field 39 (.agg #[.int .i64 lu, .int .i64 (Fu : Int)]) 1).run Try.prog w = .ok (.int .i64 (Fu : Int)) w := fun _ => by kernel_rfl
  obtain ⟨h, z, b, r, rd, wr, s, p, q, t⟩ := K
  try simp only at *
  clear hK R hlen hM htk hrk hrk1 e1 e2 e3 e4 hSS hMM hFF hDD hcu hcv heu hev hgu hku hlu hTI hRJ hRK hmm hQ hX hY hcl hcl0 hfu0 f1 f2 f3 f4 hmod hS hS2 hH hh hr hp8 hQ2 hT5'
  go_enter Try.func5, Try.ntmps5
  go_wp2_with fail
  obtain ⟨w1, hw1⟩ : ∃ w1, w.alloc (cfgO h z b r rd wr s p q t (.slice a len c)) = w1 := ⟨_, rfl⟩
  have hb : w1.heap[w.heap.size]? = some (cfgO h z b r rd wr s p q t (.slice a len c)) := by rw [← hw1]; exact heap_alloc_new w _
  have K1 : Hid (Chg no w w1) := by rw [← hw1]; exact (Chg.refl no w).alloc _
  rw [hw1]
  obtain ⟨gc, hg⟩ : ∃ g, w.heap.size = g := ⟨_, rfl⟩
  rw [hg] at hb ⊢
  have HB : Hid (∀ W, Chg no w1 W → W.heap[gc]? = some (cfgO h z b r rd wr s p q t (.slice a len c))) := fun W k => k.heap hb id
  clear hw1 hg hb
  refine (HFi.out _).mono ?_
  rintro e w2 ⟨rfl, k2⟩
  have K2 : Hid (Chg no w1 w2) := k2
  obtain ⟨c0, c1, c2, c3, c4, c5, c6, c7, c8, c9, c10⟩ := cfg_cells (HB.out w2 k2)
  have HF2 := HF.out w2 (K1.out.then k2)
  clear k2 HF
  go_wp2_with fail
  refine HF2.mono ?_
  rintro e w3 ⟨B, rfl, k3, hB⟩
  have K3 : Hid (Chg no w1 w3) := K2.out.then k3
  clear HF2 k3 hB c0 c1 c2 c3 c4 c5 c6 c7 c8 c9 c10 K2
  cases B
  · go_wp2_with fail
    refine (HFi.out _).mono ?_
    rintro e w4 ⟨rfl, k4⟩
    go_wp2
    go_ret
    exact ⟨rfl, ((K1.out.then K3.out).then k4).below⟩
  obtain ⟨c0, c1, c2, c3, c4, c5, c6, c7, c8, c9, c10⟩ := cfg_cells (HB.out w3 K3.out)
  have HP3 := HP.out w3 (K1.out.then K3.out)
  go_wp2_with fail
  refine HP3.mono ?_
  rintro e wp ⟨rfl, kp⟩
  have Kp : Hid (Chg no w1 wp) := K3.out.then kp
  clear HP3 kp c0 c1 c2 c3 c4 c5 c6 c7 c8 c9 c10 K3 HP
  obtain ⟨c0, c1, c2, c3, c4, c5, c6, c7, c8, c9, c10⟩ := cfg_cells (HB.out wp Kp.out)
  have HO3 := HO.out wp (K1.out.then Kp.out)
  go_wp2_with fail
  refine HO3.mono ?_
  rintro e w4 ⟨a', n', c', rfl, k4⟩
  have K4 : Hid (Chg no w1 w4) := Kp.out.then k4
  clear HO3 k4 c0 c1 c2 c3 c4 c5 c6 c7 c8 c9 c10 Kp HO
  go_wp2_with fail
  obtain ⟨w5, hw5⟩ : ∃ w5, w4.alloc (layO h z b r rd wr s p q t (.slice a' n' c')) = w5 := ⟨_, rfl⟩
  have K5 : Hid (Chg no w1 w5) := by rw [← hw5]; exact K4.out.alloc _
  have hl : w5.heap[w4.heap.size]? = some (layO h z b r rd wr s p q t (.slice a' n' c')) := by rw [← hw5]; exact heap_alloc_new w4 _
  rw [hw5]
  obtain ⟨gl, hgl⟩ : ∃ g, w4.heap.size = g := ⟨_, rfl⟩
  rw [hgl] at hl ⊢
  have HT : Hid (Tb gc gl h z b r rd wr s p q t (.slice a len c) (.slice a' n' c') w5) := ⟨HB.out w5 K5.out, hl⟩
  have KW : Hid (Chg no w w5) := K1.out.then K5.out
  clear hw5 K4 hl hgl HB K5 K1
  go_loopw [9, 10] (fun nv iv wq => ∃ u : Nat, u ≤ S ∧ nv = .int .i64 (u : Int) ∧ iv = .int .i64 (u : Int) ∧ Chg no w5 wq) (fun _ iv _ => S - (intOf iv).toNat)
  case atStart => exact ⟨0, by omega, rfl, rfl, Chg.refl no _⟩
  case round =>
    rename World => wl
    obtain ⟨u, hu, rfl, rfl, hC⟩ := hrel
    have HT2 : Hid (Tb gc gl h z b r rd wr s p q t (.slice a len c) (.slice a' n' c') wl) := HT.out.later hC
    have HC : Hid (Chg no w5 wl) := hC
    obtain ⟨d0, d1, d2, d3, d4, d5, d6, d7, d8, d9, d10⟩ := lay_cells HT2.out.lay
    have HSl := HP16.out wl a' n' c'
    clear hC HT
    go_wp2_with fail
    refine HSl.mono ?_
    rintro e w6 ⟨rfl, k6⟩
    have HT : Hid (Tb gc gl h z b r rd wr s p q t (.slice a len c) (.slice a' n' c') w6) := HT2.out.later k6
    have HC6 : Hid (Chg no w5 w6) := HC.out.then k6
    clear HSl k6 HC HT2 d0 d1 d2 d3 d4 d5 d6 d7 d8 d9 d10
    by_cases hlt : u < S
    · have hlti : (u : Int) < S := by omega
      obtain ⟨d0, d1, d2, d3, d4, d5, d6, d7, d8, d9, d10⟩ := lay_cells HT.out.lay
      have HLg := HP28.out (u : Int) (by omega) w6 a' n' c'
      have hlog : logA ⟨h, z, b, r, rd, wr, s, p, q, t⟩ (u : Int) = (((2 + u * 1 : Nat) : Int), 1) := by
        unfold logA
        rw [if_pos ⟨by omega, by rw [HSS.out]; omega⟩, HF1.out, Int.toNat_natCast]
        rfl
      rw [hlog] at HLg
      obtain ⟨lgu, hlgu⟩ : ∃ x, ((2 + u * 1 : Nat) : Int) = x := ⟨_, rfl⟩
      simp only [areaV, hlgu] at HLg
      have fl6 : ∀ w, (Instr.field 39 (.agg #[.int .i64 lgu, .int .i64 1]) 1).run Try.prog w = .ok (.int .i64 1) w := fun _ => by kernel_rfl
      clear hlog hlgu
      go_wp2_with fail
      refine HLg.mono ?_
      rintro e w7 ⟨rfl, k7⟩
      go_wp2
      go_roundw
      case rel => exact ⟨u + 1, by omega, by go_num, by go_num, HC6.out.then k7⟩
      case measure => simp [intOf]; omega
    · obtain rfl : u = S := by omega
      have hlti : ¬ (u : Int) < u := by omega
      have KX : Hid (Chg no w w6) := KW.out.then HC6.out
      obtain ⟨c0, c1, c2, c3, c4, c5, c6, c7, c8, c9, c10⟩ := cfg_cells HT.out.box
      clear HC6 KW hu hlt
      go_wp2_with fail
      obtain ⟨pK, hpK⟩ : ∃ pK : World → Prop, ∀ w', pK w' ↔ Chg no w6 w' := ⟨_, fun _ => Iff.rfl⟩
      obtain ⟨x0, x1, x2, x3, x4, x5, x6, x7, x8, x9, x10, iK⟩ := cfg_facts hpK HT.out.box
      obtain ⟨z0, z1, z2, z3, z4, z5, z6, z7, z8, z9, z10⟩ := lay_facts hpK HT.out.lay
      have HpK : Hid (∀ w', pK w' ↔ Chg no w6 w') := hpK
      have Y0 : Chg no w6 w6.drew := (Chg.refl no w6).drew
      clear hpK
      refine far.region_farM (fun κ w' => pK w') [4, 9, 14] (by kernel_rfl) (by kernel_rfl) ((HpK.out _).2 Y0) ?_
      intro LP e1' e2' e3'
      refine far.farO_stretch pK 4 0 3 e1' e2' e3' (by kernel_rfl) (by kernel_rfl) (fun κ w' hk1 hk2 hC => hC) ?_
      simp only [List.take_succ_cons, List.take_zero, List.drop_succ_cons, List.drop_zero, Nat.reduceAdd]
      repeat (go_big_quiet_step (fail))
      refine wpQuiet_nil ?_
      refine far.farO_enter e1' e2' 0 rfl rfl 16 #[layV ⟨h, z, b, r, rd, wr, s, p, q, t⟩ (.slice a' n' c')] (by kernel_rfl) (by kernel_rfl) ?_
      refine (HP16.out _ a' n' c').mono ?_
      rintro e v1 ⟨rfl, k1⟩
      have Y1 := Y0.then k1
      refine ⟨_, rfl, (HpK.out _).2 Y1, ?_⟩
      simp only [Act.put, List.setIfInBounds_toArray, List.set_cons_succ, List.set_cons_zero, Nat.reduceAdd]
      refine far.farO_stretch pK 4 0 3 e1' e2' e3' (by kernel_rfl) (by kernel_rfl) (fun κ w' hk1 hk2 hC => hC) ?_
      simp only [List.take_succ_cons, List.take_zero, List.drop_succ_cons, List.drop_zero, Nat.reduceAdd]
      repeat (go_big_quiet_step (fail))
      refine wpQuiet_nil ?_
      refine far.farO_enter e1' e2' 1 rfl rfl 36 #[layV ⟨h, z, b, r, rd, wr, s, p, q, t⟩ (.slice a' n' c'), .int .i64 (i : Int)] (by kernel_rfl) (by kernel_rfl) ?_
      refine (HP36.out _ a' n' c').mono ?_
      rintro e v2 ⟨rfl, k2⟩
      have Y2 := Y1.then k2
      refine ⟨_, rfl, (HpK.out _).2 Y2, ?_⟩
      simp only [Act.put, List.setIfInBounds_toArray, List.set_cons_succ, List.set_cons_zero, Nat.reduceAdd]
      refine far.farO_stretch pK 4 0 3 e1' e2' e3' (by kernel_rfl) (by kernel_rfl) (fun κ w' hk1 hk2 hC => hC) ?_
      simp only [List.take_succ_cons, List.take_zero, List.drop_succ_cons, List.drop_zero, Nat.reduceAdd]
      repeat (go_big_quiet_step (fail))
      refine wpQuiet_nil ?_
      refine far.farO_enter e1' e2' 2 rfl rfl 30 #[layV ⟨h, z, b, r, rd, wr, s, p, q, t⟩ (.slice a' n' c'), .int .i64 (i : Int)] (by kernel_rfl) (by kernel_rfl) ?_
      refine (HP30.out _ a' n' c').mono ?_
      rintro e v3 ⟨rfl, k3⟩
      have Y3 := Y2.then k3
      refine ⟨_, rfl, (HpK.out _).2 Y3, ?_⟩
      simp only [Act.put, List.setIfInBounds_toArray, List.set_cons_succ, List.set_cons_zero, Nat.reduceAdd]
      refine far.farO_stretch pK 9 0 3 e1' e2' e3' (by kernel_rfl) (by kernel_rfl) (fun κ w' hk1 hk2 hC => hC) ?_
      simp only [List.take_succ_cons, List.take_zero, List.drop_succ_cons, List.drop_zero, Nat.reduceAdd]
      repeat (go_big_quiet_step (fail))
      refine wpQuiet_nil ?_
      refine far.farO_nil ?_
      have KY : Hid (Chg no w v3) := KX.out.then Y3
      have HT2 : Hid (Tb gc gl h z b r rd wr s p q t (.slice a len c) (.slice a' n' c') v3) := HT.out.later Y3
      clear HT
      have HT : Hid (Tb gc gl h z b r rd wr s p q t (.slice a len c) (.slice a' n' c') v3) := HT2.out
      clear HT2
      clear HpK Y0 x0 z0 x1 z1 x2 z2 x3 z3 x4 z4 x5 z5 x6 z6 x7 z7 x8 z8 x9 z9 x10 z10 iK KX Y1 Y2 Y3 k1 k2 k3
      clear e1' e2' e3' LP pK
      clear c0 c1 c2 c3 c4 c5 c6 c7 c8 c9 c10
      obtain ⟨c0, c1, c2, c3, c4, c5, c6, c7, c8, c9, c10⟩ := cfg_cells HT.out.box
      have E14 : (u : Int) + (X : Int) + cv + (M : Int) + 1 + (r : Int) + 1 + 2 = TI := by have := htk'.out; omega
      rw [E14]
      have mp : mm < p := by have := Nat.mod_lt i (show p > 0 by omega); have e : i % p = mm := HMM.out; omega
      go_wp2_with fail
      go_loopw [13, 14] (fun dv qv wq => ∃ v : Nat, v ≤ mm ∧ dv = .int .i64 ((v * D : Nat) : Int) ∧ qv = .int .i64 ((i : Int) - (mm : Int) + 1 + (v : Int)) ∧ Chg no v3 wq) (fun _ qv _ => i + 1 - (intOf qv).toNat)
      case atStart => exact ⟨0, by omega, by rw [Nat.zero_mul]; rfl, by congr 1; omega, Chg.refl no _⟩
      case round =>
        rename World => wm
        obtain ⟨v, hv, rfl, rfl, hC⟩ := hrel
        have HT2 : Hid (Tb gc gl h z b r rd wr s p q t (.slice a len c) (.slice a' n' c') wm) := HT.out.later hC
        have HC : Hid (Chg no v3 wm) := hC
        obtain ⟨y, hy⟩ : ∃ y, (i : Int) - (mm : Int) + 1 + (v : Int) = y := ⟨_, rfl⟩
        have HY : Hid ((i : Int) - (mm : Int) + 1 + (v : Int) = y) := hy
        clear hC HT c0 c1 c2 c3 c4 c5 c6 c7 c8 c9 c10
        by_cases hvm : v < mm
        · have hle : y ≤ (i : Int) := by omega
          have hy0 : 0 ≤ y := by omega
          obtain ⟨d0, d1, d2, d3, d4, d5, d6, d7, d8, d9, d10⟩ := lay_cells HT2.out.lay
          have HDl := HP32.out y (by omega) wm a' n' c'
          have hyn : y.toNat % p ≠ 0 := by
            have e : i % p = mm := HMM.out
            have e2 := Nat.div_add_mod i p
            have e3 : y.toNat = (v + 1) + p * (i / p) := by omega
            rw [e3, Nat.add_mul_mod_self_left, Nat.mod_eq_of_lt (by omega)]
            omega
          have hdl : (deltaA ⟨h, z, b, r, rd, wr, s, p, q, t⟩ y).2 = D := by
            unfold deltaA
            rw [if_pos ⟨hy0, hyn⟩]
            simp only
            rw [HDD.out]
          obtain ⟨du, hdu⟩ : ∃ x, (deltaA ⟨h, z, b, r, rd, wr, s, p, q, t⟩ y).1 = x := ⟨_, rfl⟩
          simp only [areaV, hdl, hdu] at HDl
          have fl7 : ∀ w, (Instr.field 39 (.agg #[.int .i64 du, .int .i64 (D : Int)]) 1).run Try.prog w = .ok (.int .i64 (D : Int)) w := fun _ => by kernel_rfl
          obtain ⟨e, he⟩ : ∃ x, v * D = x := ⟨_, rfl⟩
          have HE : Hid ((v + 1) * D = e + D) := by show _ = _; rw [Nat.add_mul, Nat.one_mul, he]
          have he5 : e ≤ 525 := by
            have : v * D ≤ mm * D := Nat.mul_le_mul_right D (by omega)
            rw [he] at this
            have := HQ.out
            omega
          have hei : (e : Int) ≤ 525 := by omega
          rw [hy, he]
          have hyi : y ≤ 1099511627776 := by omega
          clear hdl hdu hyn he hy he5
          go_wp2_with fail
          refine HDl.mono ?_
          rintro e' w7 ⟨rfl, k7⟩
          go_wp2
          go_roundw
          case rel => exact ⟨v + 1, by omega, by rw [HE.out]; go_num, by congr 1; have := HY.out; omega, HC.out.then k7⟩
          case measure => have := HY.out; simp [intOf]; omega
        · obtain rfl : v = mm := by omega
          have hgt : ¬ y ≤ (i : Int) := by omega
          rw [hy, HQ.out]
          have KV : Hid (Chg no w wm) := KY.out.then HC.out
          have HT : Hid (Tb gc gl h z b r rd wr s p q t (.slice a len c) (.slice a' n' c') wm) := HT2.out
          clear hy HC KY HT2 hv hvm
          go_wp2_with fail
          obtain ⟨pK, hpK⟩ : ∃ pK : World → Prop, ∀ w', pK w' ↔ Chg no wm w' := ⟨_, fun _ => Iff.rfl⟩
          obtain ⟨x0, x1, x2, x3, x4, x5, x6, x7, x8, x9, x10, iK⟩ := cfg_facts hpK HT.out.box
          obtain ⟨z0, z1, z2, z3, z4, z5, z6, z7, z8, z9, z10⟩ := lay_facts hpK HT.out.lay
          have HpK : Hid (∀ w', pK w' ↔ Chg no wm w') := hpK
          have Y0 : Chg no wm wm.drew := (Chg.refl no wm).drew
          clear hpK
          refine far.region_farM (fun κ w' => pK w') [1, 9, 20] (by kernel_rfl) (by kernel_rfl) ((HpK.out _).2 Y0) ?_
          intro LP e1' e2' e3'
          refine far.farO_stretch pK 1 0 3 e1' e2' e3' (by kernel_rfl) (by kernel_rfl) (fun κ w' hk1 hk2 hC => hC) ?_
          simp only [List.take_succ_cons, List.take_zero, List.drop_succ_cons, List.drop_zero, Nat.reduceAdd]
          repeat (go_big_quiet_step (fail))
          refine wpQuiet_nil ?_
          refine far.farO_enter e1' e2' 0 rfl rfl 34 #[layV ⟨h, z, b, r, rd, wr, s, p, q, t⟩ (.slice a' n' c'), .int .i64 0] (by kernel_rfl) (by kernel_rfl) ?_
          refine (HP34.out _ a' n' c').mono ?_
          rintro e s1 ⟨rfl, k1⟩
          have Y1 := Y0.then k1
          refine ⟨_, rfl, (HpK.out _).2 Y1, ?_⟩
          simp only [Act.put, List.setIfInBounds_toArray, List.set_cons_succ, List.set_cons_zero, Nat.reduceAdd]
          refine far.farO_stretch pK 7 0 3 e1' e2' e3' (by kernel_rfl) (by kernel_rfl) (fun κ w' hk1 hk2 hC => hC) ?_
          simp only [List.take_succ_cons, List.take_zero, List.drop_succ_cons, List.drop_zero, Nat.reduceAdd]
          repeat (go_big_quiet_step (fail))
          refine wpQuiet_nil ?_
          refine far.farO_enter e1' e2' 1 rfl rfl 30 #[layV ⟨h, z, b, r, rd, wr, s, p, q, t⟩ (.slice a' n' c'), .int .i64 0] (by kernel_rfl) (by kernel_rfl) ?_
          refine (HP30'.out _ a' n' c').mono ?_
          rintro e s2 ⟨rfl, k2⟩
          have Y2 := Y1.then k2
          refine ⟨_, rfl, (HpK.out _).2 Y2, ?_⟩
          simp only [Act.put, List.setIfInBounds_toArray, List.set_cons_succ, List.set_cons_zero, Nat.reduceAdd]
          refine far.farO_stretch pK 10 0 3 e1' e2' e3' (by kernel_rfl) (by kernel_rfl) (fun κ w' hk1 hk2 hC => hC) ?_
          simp only [List.take_succ_cons, List.take_zero, List.drop_succ_cons, List.drop_zero, Nat.reduceAdd]
          repeat (go_big_quiet_step (fail))
          refine wpQuiet_nil ?_
          refine far.farO_enter e1' e2' 2 rfl rfl 36 #[layV ⟨h, z, b, r, rd, wr, s, p, q, t⟩ (.slice a' n' c'), .int .i64 ((i : Int) + 1)] (by kernel_rfl) (by kernel_rfl) ?_
          refine (HP36'.out _ a' n' c').mono ?_
          rintro e s3 ⟨rfl, k3⟩
          have Y3 := Y2.then k3
          refine ⟨_, rfl, (HpK.out _).2 Y3, ?_⟩
          simp only [Act.put, List.setIfInBounds_toArray, List.set_cons_succ, List.set_cons_zero, Nat.reduceAdd]
          refine far.farO_stretch pK 6 0 3 e1' e2' e3' (by kernel_rfl) (by kernel_rfl) (fun κ w' hk1 hk2 hC => hC) ?_
          simp only [List.take_succ_cons, List.take_zero, List.drop_succ_cons, List.drop_zero, Nat.reduceAdd]
          repeat (go_big_quiet_step (fail))
          refine wpQuiet_nil ?_
          refine far.farO_nil ?_
          have KZ : Hid (Chg no w s3) := KV.out.then Y3
          have HT2 : Hid (Tb gc gl h z b r rd wr s p q t (.slice a len c) (.slice a' n' c') s3) := HT.out.later Y3
          clear HT
          have HT : Hid (Tb gc gl h z b r rd wr s p q t (.slice a len c) (.slice a' n' c') s3) := HT2.out
          clear HT2
          clear HpK Y0 x0 z0 x1 z1 x2 z2 x3 z3 x4 z4 x5 z5 x6 z6 x7 z7 x8 z8 x9 z9 x10 z10 iK KV Y1 Y2 Y3 k1 k2 k3
          clear e1' e2' e3' LP pK
          have E20 : 4 + (Fu : Int) + (Q : Int) + (u : Int) + (M : Int) + (Y : Int) + ev + 1 + 1 + 1 = RJ := by have := hrk'.out; omega
          rw [E20]
          have g1 : RK - RJ = 2 * (H : Int) := by have := hrk'.out; have := hrk1'.out; omega
          have g2 : RJ ≤ 20000 := by have := hrk'.out; omega
          have g3 : 0 ≤ RJ := by have := hrk'.out; omega
          have g4 : RK ≤ 20100 := by have := hrk1'.out; omega
          have g5 : 0 ≤ RK := by have := hrk1'.out; omega
          go_wp2_with fail
          obtain ⟨pK, hpK⟩ : ∃ pK : World → Prop, ∀ w', pK w' ↔ Chg no s3 w' := ⟨_, fun _ => Iff.rfl⟩
          obtain ⟨x0, x1, x2, x3, x4, x5, x6, x7, x8, x9, x10, iK⟩ := cfg_facts hpK HT.out.box
          obtain ⟨z0, z1, z2, z3, z4, z5, z6, z7, z8, z9, z10⟩ := lay_facts hpK HT.out.lay
          have HpK : Hid (∀ w', pK w' ↔ Chg no s3 w') := hpK
          have Y0 : Chg no s3 s3.drew := (Chg.refl no s3).drew
          clear hpK
          refine far.region_farM (fun κ w' => pK w') [0, 4, 12, 18, 20, 30, 40, 46] (by kernel_rfl) (by kernel_rfl) ((HpK.out _).2 Y0) ?_
          intro LP e1' e2' e3'
          refine far.farO_enter e1' e2' 0 rfl rfl 7 #[] (by kernel_rfl) (by kernel_rfl) ?_
          refine (HFi.out _).mono ?_
          rintro e q1 ⟨rfl, k1⟩
          have Y1 := Y0.then k1
          refine ⟨_, rfl, (HpK.out _).2 Y1, ?_⟩
          simp only [Act.put, List.setIfInBounds_toArray, List.set_cons_succ, List.set_cons_zero, Nat.reduceAdd]
          refine far.farO_stretch pK 3 0 8 e1' e2' e3' (by kernel_rfl) (by kernel_rfl) (fun κ w' hk1 hk2 hC => hC) ?_
          simp only [List.take_succ_cons, List.take_zero, List.drop_succ_cons, List.drop_zero, Nat.reduceAdd]
          repeat (go_big_quiet_step (fail))
          refine wpQuiet_nil ?_
          refine far.farO_enter e1' e2' 1 rfl rfl 42 #[layV ⟨h, z, b, r, rd, wr, s, p, q, t⟩ (.slice a' n' c'), .int .i64 (i : Int)] (by kernel_rfl) (by kernel_rfl) ?_
          refine (HP42.out _ a' n' c').mono ?_
          rintro e q2 ⟨rfl, k2⟩
          have Y2 := Y1.then k2
          refine ⟨_, rfl, (HpK.out _).2 Y2, ?_⟩
          simp only [Act.put, List.setIfInBounds_toArray, List.set_cons_succ, List.set_cons_zero, Nat.reduceAdd]
          refine far.farO_stretch pK 7 0 8 e1' e2' e3' (by kernel_rfl) (by kernel_rfl) (fun κ w' hk1 hk2 hC => hC) ?_
          simp only [List.take_succ_cons, List.take_zero, List.drop_succ_cons, List.drop_zero, Nat.reduceAdd]
          repeat (go_big_quiet_step (fail))
          refine wpQuiet_nil ?_
          refine far.farO_enter e1' e2' 2 rfl rfl 44 #[layV ⟨h, z, b, r, rd, wr, s, p, q, t⟩ (.slice a' n' c'), .int .i64 (i : Int), .int .i64 (j : Int)] (by kernel_rfl) (by kernel_rfl) ?_
          refine (HP44.out _ a' n' c').mono ?_
          rintro e q3 ⟨rfl, k3⟩
          have Y3 := Y2.then k3
          refine ⟨_, rfl, (HpK.out _).2 Y3, ?_⟩
          simp only [Act.put, List.setIfInBounds_toArray, List.set_cons_succ, List.set_cons_zero, Nat.reduceAdd]
          refine far.farO_stretch pK 5 0 8 e1' e2' e3' (by kernel_rfl) (by kernel_rfl) (fun κ w' hk1 hk2 hC => hC) ?_
          simp only [List.take_succ_cons, List.take_zero, List.drop_succ_cons, List.drop_zero, Nat.reduceAdd]
          repeat (go_big_quiet_step (fail))
          refine wpQuiet_nil ?_
          refine far.farO_enter e1' e2' 3 rfl rfl 46 #[layV ⟨h, z, b, r, rd, wr, s, p, q, t⟩ (.slice a' n' c')] (by kernel_rfl) (by kernel_rfl) ?_
          refine (HP46.out _ a' n' c').mono ?_
          rintro e q4 ⟨rfl, k4⟩
          have Y4 := Y3.then k4
          refine ⟨_, rfl, (HpK.out _).2 Y4, ?_⟩
          simp only [Act.put, List.setIfInBounds_toArray, List.set_cons_succ, List.set_cons_zero, Nat.reduceAdd]
          refine far.farO_stretch pK 1 0 8 e1' e2' e3' (by kernel_rfl) (by kernel_rfl) (fun κ w' hk1 hk2 hC => hC) ?_
          simp only [List.take_succ_cons, List.take_zero, List.drop_succ_cons, List.drop_zero, Nat.reduceAdd]
          repeat (go_big_quiet_step (fail))
          refine wpQuiet_nil ?_
          refine far.farO_enter e1' e2' 4 rfl rfl 34 #[layV ⟨h, z, b, r, rd, wr, s, p, q, t⟩ (.slice a' n' c'), .int .i64 0] (by kernel_rfl) (by kernel_rfl) ?_
          refine (HP34.out _ a' n' c').mono ?_
          rintro e q5 ⟨rfl, k5⟩
          have Y5 := Y4.then k5
          refine ⟨_, rfl, (HpK.out _).2 Y5, ?_⟩
          simp only [Act.put, List.setIfInBounds_toArray, List.set_cons_succ, List.set_cons_zero, Nat.reduceAdd]
          refine far.farO_stretch pK 9 0 8 e1' e2' e3' (by kernel_rfl) (by kernel_rfl) (fun κ w' hk1 hk2 hC => hC) ?_
          simp only [List.take_succ_cons, List.take_zero, List.drop_succ_cons, List.drop_zero, Nat.reduceAdd]
          repeat (go_big_quiet_step (fail))
          refine wpQuiet_nil ?_
          refine far.farO_enter e1' e2' 5 rfl rfl 44 #[layV ⟨h, z, b, r, rd, wr, s, p, q, t⟩ (.slice a' n' c'), .int .i64 (i : Int), .int .i64 ((j : Int) + 1)] (by kernel_rfl) (by kernel_rfl) ?_
          refine (HP44'.out _ a' n' c').mono ?_
          rintro e q6 ⟨rfl, k6⟩
          have Y6 := Y5.then k6
          refine ⟨_, rfl, (HpK.out _).2 Y6, ?_⟩
          simp only [Act.put, List.setIfInBounds_toArray, List.set_cons_succ, List.set_cons_zero, Nat.reduceAdd]
          refine far.farO_stretch pK 9 0 8 e1' e2' e3' (by kernel_rfl) (by kernel_rfl) (fun κ w' hk1 hk2 hC => hC) ?_
          simp only [List.take_succ_cons, List.take_zero, List.drop_succ_cons, List.drop_zero, Nat.reduceAdd]
          repeat (go_big_quiet_step (fail))
          refine wpQuiet_nil ?_
          refine far.farO_enter e1' e2' 6 rfl rfl 42 #[layV ⟨h, z, b, r, rd, wr, s, p, q, t⟩ (.slice a' n' c'), .int .i64 (i : Int)] (by kernel_rfl) (by kernel_rfl) ?_
          refine (HP42.out _ a' n' c').mono ?_
          rintro e q7 ⟨rfl, k7⟩
          have Y7 := Y6.then k7
          refine ⟨_, rfl, (HpK.out _).2 Y7, ?_⟩
          simp only [Act.put, List.setIfInBounds_toArray, List.set_cons_succ, List.set_cons_zero, Nat.reduceAdd]
          refine far.farO_stretch pK 5 0 8 e1' e2' e3' (by kernel_rfl) (by kernel_rfl) (fun κ w' hk1 hk2 hC => hC) ?_
          simp only [List.take_succ_cons, List.take_zero, List.drop_succ_cons, List.drop_zero, Nat.reduceAdd]
          repeat (go_big_quiet_step (fail))
          refine wpQuiet_nil ?_
          refine far.farO_enter e1' e2' 7 rfl rfl 42 #[layV ⟨h, z, b, r, rd, wr, s, p, q, t⟩ (.slice a' n' c'), .int .i64 ((i : Int) + (p : Int))] (by kernel_rfl) (by kernel_rfl) ?_
          refine (HP42'.out _ a' n' c').mono ?_
          rintro e q8 ⟨rfl, k8⟩
          have Y8 := Y7.then k8
          refine ⟨_, rfl, (HpK.out _).2 Y8, ?_⟩
          simp only [Act.put, List.setIfInBounds_toArray, List.set_cons_succ, List.set_cons_zero, Nat.reduceAdd]
          refine far.farO_stretch pK 3 0 8 e1' e2' e3' (by kernel_rfl) (by kernel_rfl) (fun κ w' hk1 hk2 hC => hC) ?_
          simp only [List.take_succ_cons, List.take_zero, List.drop_succ_cons, List.drop_zero, Nat.reduceAdd]
          repeat (go_big_quiet_step (fail))
          refine wpQuiet_nil ?_
          refine far.farO_nil ?_
          go_wp2
          go_ret
          exact ⟨rfl, (KZ.out.then Y8).below⟩

end Go.Proofs.Ytfhpdcimdeilpaa.sums
