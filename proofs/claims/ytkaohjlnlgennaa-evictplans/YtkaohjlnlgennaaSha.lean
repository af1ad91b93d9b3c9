/- Contracts of bucketAt, On and Shared. -/
import Derived.Test.YtkaohjlnlgennaaLen
namespace Go.Proofs.Ytkaohjlnlgennaa.st
open Go.ChangeShapes Go.WideShapes Go.ChangeAt Go.RowKit Go.Proofs.Ytkaohjlnlgennaa.hp Go.Proofs.Ytkaohjlnlgennaa.tm
set_option linter.unusedVariables false

theorem bat_small : ∀ h : Fin 7, ∀ k : Fin 7, k.val ≤ h.val → (2 : Int) ^ k.val ≤ 64 ∧ (1 : Int) ≤ 2 ^ k.val := by decide +kernel

/-- The bucket on a level, for numbers as they come. -/
theorem bucketAt_any (w : World) (h l k : Nat) (h1 : h ≤ 6) (h2 : l < 2 ^ h) (h3 : k ≤ h) :
    Calls Try.prog 42 #[.int .i64 h, .int .i64 l, .int .i64 k] w fun e w' => e = .returned (.int .i64 (bat h l k)) ∧ ∃ n, w' = w.drewN n := by
  have hl : l < 64 := by have := (pow_le6 h h1).2; omega
  have i1 : (h : Int) ≤ 6 := by omega
  have i2 : (l : Int) < 64 := by omega
  have i3 : (k : Int) ≤ h := by omega
  obtain ⟨P, hP⟩ : ∃ P : Int, (2 : Int) ^ k = P := ⟨_, rfl⟩
  have hs := bat_small ⟨h, by omega⟩ ⟨k, by omega⟩ h3
  simp only [hP] at hs
  obtain ⟨D, hD⟩ : ∃ D : Int, (l : Int) / 2 ^ (h - k) = D := ⟨_, rfl⟩
  have hD0 : 0 ≤ D := by rw [← hD]; exact Int.ediv_nonneg (by omega) (Int.le_of_lt (Int.pow_pos (by decide)))
  have hD1 : D ≤ l := by rw [← hD]; exact Int.ediv_le_self _ (by omega)
  have HE : Hid (P - 1 + D = (bat h l k : Int)) := by
    show P - 1 + D = (bat h l k : Int)
    unfold bat
    rw [← hP, ← hD, Int.natCast_add, Int.natCast_sub (Nat.one_le_two_pow), Int.natCast_ediv, pow_cast, pow_cast]
    rfl
  have hw : wrap64 P = P := by unfold wrap64; omega
  have hn : ((h : Int) - (k : Int)).toNat = h - k := by omega
  go_enter Try.func42, Try.ntmps42
  go_wp2_with fail
  go_quiet (fail)
  go_wp2
  go_ret
  exact ⟨ret_int HE.out, _, rfl⟩

theorem xor_small : ∀ a : Fin 64, ∀ b : Fin 64, bits .xor .i64 (a.val : Int) (b.val : Int) = ((a.val ^^^ b.val : Nat) : Int) := by decide +kernel

/-- Shared. -/
theorem shared_none (w : World) (h a b : Int) (hk : okL h a = false ∨ okL h b = false) :
    Calls Try.prog 35 #[.int .i64 h, .int .i64 a, .int .i64 b] w fun e w' => e = .returned (.int .i64 (shI h a b)) ∧ w' = w := by
  have HE : Hid (shI h a b = -1) := by
    show shI h a b = -1
    unfold shI
    rw [if_neg]
    rintro ⟨e1, e2⟩
    rcases hk with e | e
    · rw [e] at e1; cases e1
    · rw [e] at e2; cases e2
  have HA := isLeaf_any w h a
  have HB := isLeaf_any w h b
  rw [HE.out]
  cases ka : okL h a
  · rw [ka] at HA
    clear hk HB ka
    go_enter Try.func35, Try.ntmps35
    go_wp2_with fail
    refine HA.mono ?_
    rintro e w1 ⟨rfl, rfl⟩
    go_wp2
    go_ret
    exact ⟨rfl, rfl⟩
  · have kb : okL h b = false := by
      rcases hk with e | e
      · rw [ka] at e; cases e
      · exact e
    rw [ka] at HA
    rw [kb] at HB
    clear hk ka kb
    go_enter Try.func35, Try.ntmps35
    go_wp2_with fail
    refine HA.mono ?_
    rintro e w1 ⟨rfl, rfl⟩
    go_wp2_with fail
    refine HB.mono ?_
    rintro e w1 ⟨rfl, rfl⟩
    go_wp2
    go_ret
    exact ⟨rfl, rfl⟩

theorem shared_some (w : World) (h a b : Nat) (h1 : h ≤ 6) (h2 : a < 2 ^ h) (h3 : b < 2 ^ h) :
    Calls Try.prog 35 #[.int .i64 h, .int .i64 a, .int .i64 b] w fun e w' => e = .returned (.int .i64 (shr h a b)) ∧ w' = w := by
  have hp := (pow_le6 h h1).2
  have HA := isLeaf_any w h a
  have HB := isLeaf_any w h b
  rw [okL_of h1 h2] at HA
  rw [okL_of h1 h3] at HB
  have hx := xor_small ⟨a, by omega⟩ ⟨b, by omega⟩
  simp only at hx
  have hlt := xor_lt (a := a) (b := b) (by omega) (by omega)
  have HL := len_any ((a ^^^ b : Nat) : Int) w (by omega) (by omega)
  rw [Int.toNat_natCast] at HL
  have hbl := Lib.bitLen_le (a ^^^ b) 6 (by omega) (by omega)
  have HE : Hid ((h : Int) - (Lib.bitLen (a ^^^ b) : Int) = shr h a b) := rfl
  obtain ⟨X, hX⟩ : ∃ X : Int, ((a ^^^ b : Nat) : Int) = X := ⟨_, rfl⟩
  obtain ⟨N, hN⟩ : ∃ N : Int, (Lib.bitLen (a ^^^ b) : Int) = N := ⟨_, rfl⟩
  rw [hX] at HL hx
  rw [hN] at HL HE
  have x0 : 0 ≤ X := by omega
  have x1 : X < 64 := by omega
  have n0 : 0 ≤ N := by omega
  have n1 : N ≤ 6 := by omega
  have i1 : (h : Int) ≤ 6 := by omega
  clear hX hN hbl hlt hp
  go_enter Try.func35, Try.ntmps35
  go_wp2_with fail
  refine HA.mono ?_
  rintro e w1 ⟨rfl, rfl⟩
  go_wp2_with fail
  refine HB.mono ?_
  rintro e w1 ⟨rfl, rfl⟩
  go_wp2_with fail
  refine HL.mono ?_
  rintro e w1 ⟨rfl, rfl⟩
  go_wp2
  go_ret
  exact ⟨ret_int HE.out, rfl⟩

theorem shared_any (w : World) (h a b : Int) :
    Calls Try.prog 35 #[.int .i64 h, .int .i64 a, .int .i64 b] w fun e w' => e = .returned (.int .i64 (shI h a b)) ∧ w' = w := by
  cases ka : okL h a
  · exact shared_none w h a b (.inl ka)
  · cases kb : okL h b
    · exact shared_none w h a b (.inr kb)
    · obtain ⟨H, A, rfl, rfl, h1, h2, _⟩ := okL_nat ka
      obtain ⟨H', B, e, rfl, h3, h4, _⟩ := okL_nat kb
      obtain rfl : H = H' := by omega
      have : shI H A B = shr H A B := by
        unfold shI
        rw [if_pos ⟨ka, kb⟩, Int.toNat_natCast, Int.toNat_natCast, Int.toNat_natCast]
      rw [this]
      exact shared_some w H A B h1 h2 h4

/-- On. -/
theorem onI_none {h b l : Int} (hk : okL h l = false ∨ okB h b = false) : onI h b l = false := by
  unfold onI
  cases ka : okL h l
  · rw [pathI_none ka]
    rfl
  · have kb : okB h b = false := by
      rcases hk with e | e
      · rw [ka] at e; cases e
      · exact e
    obtain ⟨H, L, rfl, rfl, h1, h2, _⟩ := okL_nat ka
    rw [pathI_of h1 h2]
    rw [Bool.eq_false_iff]
    intro hc
    have := path_lt h1 h2 (List.contains_iff_mem.1 hc)
    unfold okB at kb
    rw [decide_eq_false_iff_not] at kb
    exact kb this

theorem on_none (w : World) (h b l : Int) (hk : okL h l = false ∨ okB h b = false) :
    Calls Try.prog 23 #[.int .i64 h, .int .i64 b, .int .i64 l] w fun e w' => e = .returned (.bool (onI h b l)) ∧ ∃ n, w' = w.drewN n := by
  rw [onI_none hk]
  have HA := isLeaf_any w h l
  have HB := isBucket_any w h b
  cases ka : okL h l
  · rw [ka] at HA
    clear hk HB ka
    go_enter Try.func23, Try.ntmps23
    go_wp2_with fail
    refine HA.mono ?_
    rintro e w1 ⟨rfl, rfl⟩
    go_wp2
    go_ret
    exact ⟨rfl, 0, rfl⟩
  · have kb : okB h b = false := by
      rcases hk with e | e
      · rw [ka] at e; cases e
      · exact e
    rw [ka] at HA
    rw [kb] at HB
    clear hk ka kb
    go_enter Try.func23, Try.ntmps23
    go_wp2_with fail
    refine HA.mono ?_
    rintro e w1 ⟨rfl, rfl⟩
    go_wp2_with fail
    refine HB.mono ?_
    rintro e w1 ⟨rfl, rfl⟩
    go_wp2
    go_ret
    exact ⟨rfl, 0, rfl⟩

theorem on_some (w : World) (h b l : Nat) (h1 : h ≤ 6) (h2 : l < 2 ^ h) (h3 : b < 2 * 2 ^ h - 1) :
    Calls Try.prog 23 #[.int .i64 h, .int .i64 b, .int .i64 l] w fun e w' => e = .returned (.bool (onI h b l)) ∧ ∃ n, w' = w.drewN n := by
  have hp := (pow_le6 h h1).2
  have HA := isLeaf_any w h l
  have HB := isBucket_any w h b
  rw [okL_of h1 h2] at HA
  rw [show okB h b = true by unfold okB; rw [bks_of h1]; simp; omega] at HB
  have HL := level_any w b (by omega)
  have e1 : lvlI (b : Int) = (lvl b : Int) := by simp [lvlI]
  rw [e1] at HL
  have HU := bucketAt_any w h l (lvl b) h1 h2 (lvl_le h1 h3)
  have HE : Hid (onI h b l = decide ((bat h l (lvl b) : Int) = b)) := by
    show onI h b l = decide ((bat h l (lvl b) : Int) = b)
    unfold onI
    rw [pathI_of h1 h2, Bool.eq_iff_iff, List.contains_iff_mem, on_iff h1 h2 h3, decide_eq_true_iff]
    omega
  rw [HE.out]
  obtain ⟨V, hV⟩ : ∃ V : Int, (lvl b : Int) = V := ⟨_, rfl⟩
  obtain ⟨U, hU⟩ : ∃ U : Int, (bat h l (lvl b) : Int) = U := ⟨_, rfl⟩
  rw [hV] at HL HU
  rw [hU] at HU ⊢
  clear hV hU e1 HE
  by_cases hc : U = b
  · rw [decide_eq_true hc]
    subst hc
    go_enter Try.func23, Try.ntmps23
    go_wp2_with fail
    refine HA.mono ?_
    rintro e w1 ⟨rfl, rfl⟩
    go_wp2_with fail
    refine HB.mono ?_
    rintro e w1 ⟨rfl, rfl⟩
    go_wp2_with fail
    refine HL.mono ?_
    rintro e w1 ⟨rfl, rfl⟩
    go_wp2_with fail
    refine HU.mono ?_
    rintro e w1 ⟨rfl, n, rfl⟩
    go_wp2
    go_ret
    exact ⟨rfl, _, rfl⟩
  · rw [decide_eq_false hc]
    have hc1 : (U == (b : Int)) = false := by simpa using hc
    go_enter Try.func23, Try.ntmps23
    go_wp2_with fail
    refine HA.mono ?_
    rintro e w1 ⟨rfl, rfl⟩
    go_wp2_with fail
    refine HB.mono ?_
    rintro e w1 ⟨rfl, rfl⟩
    go_wp2_with fail
    refine HL.mono ?_
    rintro e w1 ⟨rfl, rfl⟩
    go_wp2_with fail
    refine HU.mono ?_
    rintro e w1 ⟨rfl, n, rfl⟩
    go_wp2
    go_ret
    exact ⟨rfl, _, rfl⟩

theorem on_any (w : World) (h b l : Int) :
    Calls Try.prog 23 #[.int .i64 h, .int .i64 b, .int .i64 l] w fun e w' => e = .returned (.bool (onI h b l)) ∧ ∃ n, w' = w.drewN n := by
  cases ka : okL h l
  · exact on_none w h b l (.inl ka)
  · cases kb : okB h b
    · exact on_none w h b l (.inr kb)
    · obtain ⟨H, L, rfl, rfl, h1, h2, _⟩ := okL_nat ka
      have hb : 0 ≤ b ∧ b < bks H := of_decide_eq_true kb
      rw [bks_of h1] at hb
      obtain ⟨B, rfl⟩ : ∃ B : Nat, b = B := ⟨b.toNat, by omega⟩
      exact on_some w H B L h1 h2 (by omega)

end Go.Proofs.Ytkaohjlnlgennaa.st
