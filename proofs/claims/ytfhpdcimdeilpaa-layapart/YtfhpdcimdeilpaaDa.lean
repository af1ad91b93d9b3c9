/- The document's lengths. -/
import Derived.Test.YtfhpdcimdeilpaaCfg
namespace Go.Proofs.Ytfhpdcimdeilpaa.st
open Go.ChangeShapes Go.WideShapes Go.ChangeAt Go.RowKit Go.Proofs.Ytfhpdcimdeilpaa.hp
set_option linter.unusedVariables false
set_option linter.unusedSimpArgs false

def payN (K : Cf) : Nat := 38 * K.z
def stashN (K : Cf) : Nat := 1 + 38 * K.s
def deltaN (K : Cf) : Nat := 12 + 7 * slotsN K + 2 + 12 * K.wr + stashN K
def bucketsN (K : Cf) : Nat := 2 ^ (K.h + 1) - 1
def fullN (K : Cf) : Nat := 11 + 5 * K.b + 1 + 11 * K.b + (bucketsN K + 7) / 8 + stashN K
def clogN (K : Cf) : Nat := 6 + 42 * K.t

theorem buckets_le {K : Cf} (hK : okC K) : 1 ≤ bucketsN K ∧ bucketsN K ≤ 127 := by
  have hh := hK.h
  obtain ⟨h, z, b, r, rd, wr, s, p, q, t⟩ := K
  unfold bucketsN
  simp only at *
  have : h = 0 ∨ h = 1 ∨ h = 2 ∨ h = 3 ∨ h = 4 ∨ h = 5 ∨ h = 6 := by omega
  rcases this with rfl | rfl | rfl | rfl | rfl | rfl | rfl <;> decide

theorem rstash_any (w : World) (K : Cf) (hK : okC K) (a : Option Addr) (n c : Nat) : Calls Try.prog 58 #[cfgV K (.slice a n c)] w fun e w' => e = .returned (.int .i64 ((stashN K : Nat) : Int)) ∧ Chg no w w' := by
  have hs := hK.s
  have hsi : (K.s : Int) ≤ 64 := by omega
  have he : 1 + (K.s : Int) * 38 = ((stashN K : Nat) : Int) := by unfold stashN; omega
  obtain ⟨h, z, b, r, rd, wr, s, p, q, t⟩ := K
  simp only at *
  clear hK
  go_enter Try.func58, Try.ntmps58
  go_wp2
  go_ret
  exact ⟨by first | rfl | exact ret_int he, (Chg.refl no w).alloc _⟩

theorem rclog_any (w : World) (K : Cf) (hK : okC K) (a : Option Addr) (n c : Nat) : Calls Try.prog 26 #[cfgV K (.slice a n c)] w fun e w' => e = .returned (.int .i64 ((clogN K : Nat) : Int)) ∧ Chg no w w' := by
  have ht := hK.t
  have hti : (K.t : Int) ≤ 8 := by omega
  have he : 6 + 42 * (K.t : Int) = ((clogN K : Nat) : Int) := by unfold clogN; omega
  obtain ⟨h, z, b, r, rd, wr, s, p, q, t⟩ := K
  simp only at *
  clear hK
  go_enter Try.func26, Try.ntmps26
  go_wp2
  go_ret
  exact ⟨by first | rfl | exact ret_int he, (Chg.refl no w).alloc _⟩

theorem rlength_any (w : World) (z : Int) : Calls Try.prog 55 #[.int .i64 z] w fun e w' => e = .returned (.int .i64 (if 1 ≤ z ∧ z ≤ 4 then 38 * z else 0)) ∧ w' = w := by
  have hc : z < 1 ∨ (1 ≤ z ∧ 4 < z) ∨ (1 ≤ z ∧ z ≤ 4) := by omega
  rcases hc with h1 | ⟨h1, h2⟩ | ⟨h1, h2⟩
  · rw [if_neg (by omega)]
    go_enter Try.func55, Try.ntmps55
    go_wp2
    go_ret
    exact ⟨rfl, rfl⟩
  · have h3 : ¬ z < 1 := by omega
    rw [if_neg (by omega)]
    go_enter Try.func55, Try.ntmps55
    go_wp2
    go_ret
    exact ⟨rfl, rfl⟩
  · have h3 : ¬ z < 1 := by omega
    have h4 : ¬ 4 < z := by omega
    rw [if_pos ⟨h1, h2⟩]
    go_enter Try.func55, Try.ntmps55
    go_wp2
    go_ret
    exact ⟨ret_int (by omega), rfl⟩

theorem rpay_any (w : World) (K : Cf) (hK : okC K) (a : Option Addr) (n c : Nat) : Calls Try.prog 13 #[cfgV K (.slice a n c)] w fun e w' => e = .returned (.int .i64 ((payN K : Nat) : Int)) ∧ Chg no w w' := by
  have hz := hK.z
  have H : Hid (∀ W, Calls Try.prog 55 #[.int .i64 (K.z : Int)] W fun e w' => e = .returned (.int .i64 ((payN K : Nat) : Int)) ∧ w' = W) := fun W => by
    have := rlength_any W (K.z : Int)
    rw [if_pos ⟨by omega, by omega⟩] at this
    have e : 38 * (K.z : Int) = ((payN K : Nat) : Int) := by unfold payN; omega
    rw [e] at this
    exact this
  obtain ⟨P, hP⟩ : ∃ P, payN K = P := ⟨_, rfl⟩
  simp only [hP] at H ⊢
  obtain ⟨h, z, b, r, rd, wr, s, p, q, t⟩ := K
  simp only at *
  clear hK hP
  go_enter Try.func13, Try.ntmps13
  go_wp2_with fail
  refine (H.out _).mono ?_
  rintro e w2 ⟨rfl, rfl⟩
  go_wp2
  go_ret
  exact ⟨rfl, (Chg.refl no w).alloc _⟩

theorem rcell_any (w : World) (K : Cf) (hK : okC K) (a : Option Addr) (n c : Nat) : Calls Try.prog 15 #[cfgV K (.slice a n c)] w fun e w' => e = .returned (.int .i64 ((12 + payN K : Nat) : Int)) ∧ Chg no w w' := by
  have hz := hK.z
  have H : Hid (∀ W, _) := fun W => rpay_any W K hK a n c
  have hp : payN K ≤ 152 := by unfold payN; omega
  obtain ⟨P, hP⟩ : ∃ P, payN K = P := ⟨_, rfl⟩
  rw [hP] at hp
  simp only [hP] at H ⊢
  have hpi : (P : Int) ≤ 152 := by omega
  obtain ⟨h, z, b, r, rd, wr, s, p, q, t⟩ := K
  simp only at *
  clear hK hP
  go_enter Try.func15, Try.ntmps15
  go_wp2_with fail
  refine (H.out _).mono ?_
  rintro e w2 ⟨rfl, k2⟩
  go_wp2
  go_ret
  exact ⟨ret_int (by omega), ((Chg.refl no w).alloc _).then k2⟩

theorem rmayh_any (w : World) (h : Int) : Calls Try.prog 54 #[.int .i64 h] w fun e w' => e = .returned (.bool (decide (0 ≤ h ∧ h ≤ 6))) ∧ w' = w := by
  by_cases h1 : 0 ≤ h
  · by_cases h2 : h ≤ 6
    · go_enter Try.func54, Try.ntmps54
      go_wp2
      go_ret
      exact ⟨ret_bool (by simp; omega), rfl⟩
    · go_enter Try.func54, Try.ntmps54
      go_wp2
      go_ret
      exact ⟨ret_bool (by simp; omega), rfl⟩
  · go_enter Try.func54, Try.ntmps54
    go_wp2
    go_ret
    exact ⟨ret_bool (by simp; omega), rfl⟩

theorem rbuckets_any (w : World) (h : Nat) (hh : h ≤ 6) : Calls Try.prog 61 #[.int .i64 h] w fun e w' => e = .returned (.int .i64 ((2 ^ (h + 1) - 1 : Nat) : Int)) ∧ w' = w := by
  have H : Hid (∀ W, Calls Try.prog 54 #[.int .i64 h] W fun e w' => e = .returned (.bool true) ∧ w' = W) := fun W => by
    have := rmayh_any W (h : Int)
    rw [decide_eq_true ⟨by omega, by omega⟩] at this
    exact this
  have hi : (h : Int) ≤ 6 := by omega
  have : h = 0 ∨ h = 1 ∨ h = 2 ∨ h = 3 ∨ h = 4 ∨ h = 5 ∨ h = 6 := by omega
  rcases this with rfl | rfl | rfl | rfl | rfl | rfl | rfl
  all_goals
    go_enter Try.func61, Try.ntmps61
    go_wp2_with fail
    refine (H.out _).mono ?_
    rintro e w2 ⟨rfl, hw⟩
    subst hw
    go_wp2
    go_ret
    exact ⟨rfl, rfl⟩

theorem rdelta_any (w : World) (K : Cf) (hK : okC K) (a : Option Addr) (n c : Nat) : Calls Try.prog 22 #[cfgV K (.slice a n c)] w fun e w' => e = .returned (.int .i64 ((deltaN K : Nat) : Int)) ∧ Chg no w w' := by
  obtain ⟨_, hS, _⟩ := slots_le hK
  have H1 : Hid (∀ W, _) := fun W => rslots_any W K hK a n c
  have H2 : Hid (∀ W, _) := fun W => rstash_any W K hK a n c
  have hw := hK.wr
  have hs := hK.s
  have hst : stashN K ≤ 2433 := by unfold stashN; omega
  have he : 12 + 7 * ((slotsN K : Nat) : Int) + 1 + 1 + 12 * (K.wr : Int) + ((stashN K : Nat) : Int) = ((deltaN K : Nat) : Int) := by unfold deltaN; omega
  obtain ⟨A, hA⟩ : ∃ A, slotsN K = A := ⟨_, rfl⟩
  obtain ⟨B, hB⟩ : ∃ B, stashN K = B := ⟨_, rfl⟩
  obtain ⟨R, hR⟩ : ∃ R, deltaN K = R := ⟨_, rfl⟩
  rw [hA] at hS
  rw [hB] at hst
  simp only [hA, hB, hR] at H1 H2 he ⊢
  have hAi : (A : Int) ≤ 40 := by omega
  have hBi : (B : Int) ≤ 2433 := by omega
  have hwi : (K.wr : Int) ≤ 8 := by omega
  obtain ⟨h, z, b, r, rd, wr, s, p, q, t⟩ := K
  simp only at *
  clear hK hA hB hR hw hs
  go_enter Try.func22, Try.ntmps22
  go_wp2_with fail
  obtain ⟨w1, hw1⟩ : ∃ w1, w.alloc (cfgO h z b r rd wr s p q t (.slice a n c)) = w1 := ⟨_, rfl⟩
  have hb : w1.heap[w.heap.size]? = some (cfgO h z b r rd wr s p q t (.slice a n c)) := by rw [← hw1]; exact heap_alloc_new w _
  have HK1 : Hid (Chg no w w1) := by rw [← hw1]; exact (Chg.refl no w).alloc _
  rw [hw1]
  obtain ⟨g, hg⟩ : ∃ g, w.heap.size = g := ⟨_, rfl⟩
  rw [hg] at hb ⊢
  clear hw1 hg
  obtain ⟨pK, hpK⟩ : ∃ pK : World → Prop, ∀ w', pK w' ↔ Chg no w1 w' := ⟨_, fun _ => Iff.rfl⟩
  obtain ⟨x0, x1, x2, x3, x4, x5, x6, x7, x8, x9, x10, iK⟩ := cfg_facts hpK hb
  have HpK : Hid (∀ w', pK w' ↔ Chg no w1 w') := hpK
  have Y0 : Chg no w1 w1.drew := (Chg.refl no w1).drew
  clear hpK hb
  refine far.region_farM (fun κ w' => pK w') [1, 11] (by kernel_rfl) (by kernel_rfl) ((HpK.out _).2 Y0) ?_
  intro L e1' e2' e3'
  refine far.farO_stretch pK 1 0 2 e1' e2' e3' (by kernel_rfl) (by kernel_rfl) (fun κ w' hk1 hk2 hC => hC) ?_
  simp only [List.take_succ_cons, List.take_zero, List.drop_succ_cons, List.drop_zero, Nat.reduceAdd]
  repeat (go_big_quiet_step (fail))
  refine wpQuiet_nil ?_
  refine far.farO_enter e1' e2' 0 rfl rfl 17 #[cfgV ⟨h, z, b, r, rd, wr, s, p, q, t⟩ (.slice a n c)] (by kernel_rfl) (by kernel_rfl) ?_
  refine (H1.out _).mono ?_
  rintro e w2 ⟨rfl, k1⟩
  have Y1 := Y0.then k1
  refine ⟨_, rfl, (HpK.out _).2 Y1, ?_⟩
  simp only [Act.put, List.setIfInBounds_toArray, List.set_cons_succ, List.set_cons_zero, Nat.reduceAdd]
  refine far.farO_stretch pK 9 0 2 e1' e2' e3' (by kernel_rfl) (by kernel_rfl) (fun κ w' hk1 hk2 hC => hC) ?_
  simp only [List.take_succ_cons, List.take_zero, List.drop_succ_cons, List.drop_zero, Nat.reduceAdd]
  repeat (go_big_quiet_step (fail))
  refine wpQuiet_nil ?_
  refine far.farO_enter e1' e2' 1 rfl rfl 58 #[cfgV ⟨h, z, b, r, rd, wr, s, p, q, t⟩ (.slice a n c)] (by kernel_rfl) (by kernel_rfl) ?_
  refine (H2.out _).mono ?_
  rintro e w3 ⟨rfl, k2⟩
  have Y2 := Y1.then k2
  refine ⟨_, rfl, (HpK.out _).2 Y2, ?_⟩
  simp only [Act.put, List.setIfInBounds_toArray, List.set_cons_succ, List.set_cons_zero, Nat.reduceAdd]
  refine far.farO_stretch pK 2 0 2 e1' e2' e3' (by kernel_rfl) (by kernel_rfl) (fun κ w' hk1 hk2 hC => hC) ?_
  simp only [List.take_succ_cons, List.take_zero, List.drop_succ_cons, List.drop_zero, Nat.reduceAdd]
  repeat (go_big_quiet_step (fail))
  refine wpQuiet_nil ?_
  refine far.farO_nil ?_
  go_wp2
  go_ret
  exact ⟨by first | rfl | exact ret_int he, HK1.out.then Y2⟩

theorem rfull_any (w : World) (K : Cf) (hK : okC K) (a : Option Addr) (n c : Nat) : Calls Try.prog 24 #[cfgV K (.slice a n c)] w fun e w' => e = .returned (.int .i64 ((fullN K : Nat) : Int)) ∧ Chg no w w' := by
  obtain ⟨hb1, hb2⟩ := buckets_le hK
  have H1 : Hid (∀ W, Calls Try.prog 61 #[.int .i64 (K.h : Int)] W fun e w' => e = .returned (.int .i64 ((bucketsN K : Nat) : Int)) ∧ Chg no W w') := fun W => (rbuckets_any W K.h hK.h).mono fun e w' h => ⟨h.1, by rw [h.2]; exact Chg.refl no W⟩
  have H2 : Hid (∀ W, _) := fun W => rstash_any W K hK a n c
  have hw := hK.b
  have hs := hK.s
  have hst : stashN K ≤ 2433 := by unfold stashN; omega
  have hq : (((bucketsN K : Nat) : Int) + 7).tdiv 8 = (((bucketsN K + 7) / 8 : Nat) : Int) := rfl
  have he : 11 + 5 * (K.b : Int) + 1 + 11 * (K.b : Int) + (((bucketsN K + 7) / 8 : Nat) : Int) + ((stashN K : Nat) : Int) = ((fullN K : Nat) : Int) := by unfold fullN; omega
  have hd : (bucketsN K + 7) / 8 ≤ 16 := by omega
  obtain ⟨A, hA⟩ : ∃ A, bucketsN K = A := ⟨_, rfl⟩
  obtain ⟨B, hB⟩ : ∃ B, stashN K = B := ⟨_, rfl⟩
  obtain ⟨R, hR⟩ : ∃ R, fullN K = R := ⟨_, rfl⟩
  rw [hA] at hb1 hb2 hd
  rw [hB] at hst
  simp only [hA, hB, hR] at H1 H2 he hq ⊢
  obtain ⟨D, hD⟩ : ∃ D, (A + 7) / 8 = D := ⟨_, rfl⟩
  rw [hD] at hd he hq
  have hAi : (A : Int) ≤ 127 := by omega
  have hDi : (D : Int) ≤ 16 := by omega
  have hBi : (B : Int) ≤ 2433 := by omega
  have hwi : (K.b : Int) ≤ 64 := by omega
  obtain ⟨h, z, b, r, rd, wr, s, p, q, t⟩ := K
  simp only at *
  clear hK hA hB hR hw hs hD
  go_enter Try.func24, Try.ntmps24
  go_wp2_with fail
  obtain ⟨w1, hw1⟩ : ∃ w1, w.alloc (cfgO h z b r rd wr s p q t (.slice a n c)) = w1 := ⟨_, rfl⟩
  have hb : w1.heap[w.heap.size]? = some (cfgO h z b r rd wr s p q t (.slice a n c)) := by rw [← hw1]; exact heap_alloc_new w _
  have HK1 : Hid (Chg no w w1) := by rw [← hw1]; exact (Chg.refl no w).alloc _
  rw [hw1]
  obtain ⟨g, hg⟩ : ∃ g, w.heap.size = g := ⟨_, rfl⟩
  rw [hg] at hb ⊢
  clear hw1 hg
  obtain ⟨pK, hpK⟩ : ∃ pK : World → Prop, ∀ w', pK w' ↔ Chg no w1 w' := ⟨_, fun _ => Iff.rfl⟩
  obtain ⟨x0, x1, x2, x3, x4, x5, x6, x7, x8, x9, x10, iK⟩ := cfg_facts hpK hb
  have HpK : Hid (∀ w', pK w' ↔ Chg no w1 w') := hpK
  have Y0 : Chg no w1 w1.drew := (Chg.refl no w1).drew
  clear hpK hb
  refine far.region_farM (fun κ w' => pK w') [11, 16] (by kernel_rfl) (by kernel_rfl) ((HpK.out _).2 Y0) ?_
  intro L e1' e2' e3'
  refine far.farO_stretch pK 11 0 2 e1' e2' e3' (by kernel_rfl) (by kernel_rfl) (fun κ w' hk1 hk2 hC => hC) ?_
  simp only [List.take_succ_cons, List.take_zero, List.drop_succ_cons, List.drop_zero, Nat.reduceAdd]
  repeat (go_big_quiet_step (fail))
  refine wpQuiet_nil ?_
  refine far.farO_enter e1' e2' 0 rfl rfl 61 #[.int .i64 (h : Int)] (by kernel_rfl) (by kernel_rfl) ?_
  refine (H1.out _).mono ?_
  rintro e w2 ⟨rfl, k1⟩
  have Y1 := Y0.then k1
  refine ⟨_, rfl, (HpK.out _).2 Y1, ?_⟩
  simp only [Act.put, List.setIfInBounds_toArray, List.set_cons_succ, List.set_cons_zero, Nat.reduceAdd]
  refine far.farO_stretch pK 4 0 2 e1' e2' e3' (by kernel_rfl) (by kernel_rfl) (fun κ w' hk1 hk2 hC => hC) ?_
  simp only [List.take_succ_cons, List.take_zero, List.drop_succ_cons, List.drop_zero, Nat.reduceAdd]
  repeat (go_big_quiet_step (fail))
  refine wpQuiet_nil ?_
  refine far.farO_enter e1' e2' 1 rfl rfl 58 #[cfgV ⟨h, z, b, r, rd, wr, s, p, q, t⟩ (.slice a n c)] (by kernel_rfl) (by kernel_rfl) ?_
  refine (H2.out _).mono ?_
  rintro e w3 ⟨rfl, k2⟩
  have Y2 := Y1.then k2
  refine ⟨_, rfl, (HpK.out _).2 Y2, ?_⟩
  simp only [Act.put, List.setIfInBounds_toArray, List.set_cons_succ, List.set_cons_zero, Nat.reduceAdd]
  refine far.farO_stretch pK 2 0 2 e1' e2' e3' (by kernel_rfl) (by kernel_rfl) (fun κ w' hk1 hk2 hC => hC) ?_
  simp only [List.take_succ_cons, List.take_zero, List.drop_succ_cons, List.drop_zero, Nat.reduceAdd]
  repeat (go_big_quiet_step (fail))
  refine wpQuiet_nil ?_
  refine far.farO_nil ?_
  go_wp2
  go_ret
  exact ⟨by first | rfl | exact ret_int he, HK1.out.then Y2⟩

end Go.Proofs.Ytfhpdcimdeilpaa.st
