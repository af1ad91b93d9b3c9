/- Contracts of Deepest and of the document's. -/
import Derived.Test.YtkaohjlnlgennaaSmb
namespace Go.Proofs.Ytkaohjlnlgennaa.st
open Go.ChangeShapes Go.WideShapes Go.ChangeAt Go.RowKit Go.Proofs.Ytkaohjlnlgennaa.hp Go.Proofs.Ytkaohjlnlgennaa.tm Go.Proofs.Ytkaohjlnlgennaa.ev
set_option linter.unusedVariables false

/-- The deepest one so far. -/
def dpTo (h leaf : Int) (ls : List Int) : Int := ls.foldl (fun n l => max n (shI h l leaf)) (-1)

theorem dpTo_snoc (h leaf : Int) (ls : List Int) (l : Int) : dpTo h leaf (ls ++ [l]) = max (dpTo h leaf ls) (shI h l leaf) := by simp [dpTo]

theorem shI_bounds (h a b : Int) : -1 ≤ shI h a b ∧ shI h a b ≤ 6 := by
  unfold shI
  split
  · rename_i hk
    obtain ⟨H, A, rfl, rfl, h1, h2, _⟩ := okL_nat hk.1
    obtain ⟨H', B, e, rfl, _, h3, _⟩ := okL_nat hk.2
    obtain rfl : H = H' := by omega
    have := shr_bounds h1 h2 h3
    simp only [Int.toNat_natCast]
    omega
  · omega

theorem shI_ok {h a b : Int} (ha : okL h a = true) (hb : okL h b = true) : 0 ≤ shI h a b := by
  unfold shI
  rw [if_pos ⟨ha, hb⟩]
  obtain ⟨H, A, rfl, rfl, h1, h2, _⟩ := okL_nat ha
  obtain ⟨H', B, e, rfl, _, h3, _⟩ := okL_nat hb
  obtain rfl : H = H' := by omega
  have := shr_bounds h1 h2 h3
  simp only [Int.toNat_natCast]
  omega

theorem shI_no {h a b : Int} (hk : okL h a = false ∨ okL h b = false) : shI h a b = -1 := by
  unfold shI
  rw [if_neg]
  rintro ⟨h1, h2⟩
  rcases hk with hk | hk
  · rw [hk] at h1; cases h1
  · rw [hk] at h2; cases h2

theorem dpTo_bounds (h leaf : Int) : ∀ (ls : List Int), -1 ≤ dpTo h leaf ls ∧ dpTo h leaf ls ≤ 6 := by
  have key : ∀ (ls : List Int) (n : Int), -1 ≤ n → n ≤ 6 → -1 ≤ ls.foldl (fun n l => max n (shI h l leaf)) n ∧ ls.foldl (fun n l => max n (shI h l leaf)) n ≤ 6 := by
    intro ls
    induction ls with
    | nil => exact fun n a b => ⟨a, b⟩
    | cons l ls ih =>
      intro n a b
      have := shI_bounds h l leaf
      exact ih (max n (shI h l leaf)) (by omega) (by omega)
  exact fun ls => key ls _ (by omega) (by omega)

theorem dpI_all {h leaf : Int} {ls : List Int} (h1 : ls.all (okL h) = true) (h2 : ls = [] ∨ okL h leaf = true) : dpI h ls leaf = dpTo h leaf ls := by
  unfold dpI dpTo
  rcases h2 with rfl | h2
  · split <;> rfl
  · rw [if_pos ⟨h1, h2⟩]

theorem dpI_not {h leaf : Int} {ls : List Int} {j : Nat} (hj : j < ls.length) (hk : okL h (ls.getD j 0) = false ∨ okL h leaf = false) : dpI h ls leaf = -1 := by
  unfold dpI
  rw [if_neg]
  rintro ⟨h1, h2⟩
  rcases hk with hk | hk
  · rw [alls_not hj hk] at h1
    cases h1
  · rw [hk] at h2
    cases h2

theorem deepest_any {J : Nat → Prop} (w : World) (h leaf : Int) (v : Value) (ls : List Int) (hv : Lies J w v (ls.map (Value.int .i64))) (hl : ls.length ≤ 100000) :
    Calls Try.prog 16 #[.int .i64 h, v, .int .i64 leaf] w fun e w' => e = .returned (.int .i64 (dpI h ls leaf)) ∧ w' = w := by
  obtain ⟨a, c, rfl, _⟩ := hv.slice
  simp only [List.length_map] at hv ⊢
  have HI : Hid (∀ (W : World) (l : Int), Calls Try.prog 35 #[.int .i64 h, .int .i64 l, .int .i64 leaf] W fun e w' => e = .returned (.int .i64 (shI h l leaf)) ∧ w' = W) := fun W l => shared_any W h l leaf
  obtain ⟨n, hn⟩ : ∃ n, ls.length = n := ⟨_, rfl⟩
  have EN : Hid (ls.length = n) := hn
  rw [hn] at hv hl ⊢
  have HV : Hid (Lies J w (.slice a n c) (ls.map (Value.int .i64))) := hv
  have hni : (n : Int) ≤ 100000 := by omega
  obtain ⟨ans, hans⟩ : ∃ x, dpI h ls leaf = x := ⟨_, rfl⟩
  have HA : Hid (dpI h ls leaf = ans) := hans
  rw [hans]
  clear hv hn hans hl
  go_enter Try.func16, Try.ntmps16
  go_wp2_with fail
  go_loopw [7, 13] (fun d i wr => ∃ j : Nat, j ≤ n ∧ i = .int .i64 (j : Int) ∧ d = .int .i64 (dpTo h leaf (ls.take j)) ∧ (ls.take j).all (okL h) = true ∧ (j = 0 ∨ okL h leaf = true) ∧ wr = w) (fun _ i _ => n - (intOf i).toNat)
  case atStart => exact ⟨0, by omega, rfl, rfl, rfl, .inl rfl, rfl⟩
  case round =>
    obtain ⟨j, hj, rfl, rfl, ht, hok, rfl⟩ := hrel
    obtain ⟨D, hD⟩ : ∃ D, dpTo h leaf (ls.take j) = D := ⟨_, rfl⟩
    have HD : Hid (dpTo h leaf (ls.take j) = D) := hD
    have hDb := dpTo_bounds h leaf (ls.take j)
    rw [hD] at hDb ⊢
    have HL : Hid ((ls.take j).all (okL h) = true) := ht
    have HK : Hid (j = 0 ∨ okL h leaf = true) := hok
    clear ht hok hD
    by_cases hjn : j < n
    · have hji : (j : Int) < n := by omega
      obtain ⟨x, rfl, hx⟩ := lies_at HV.out j (by rw [EN.out]; exact hjn)
      obtain ⟨l, hl⟩ : ∃ l, ls.getD j 0 = l := ⟨_, rfl⟩
      rw [hl] at hx
      have HL2 : Hid (ls.getD j 0 = l) := hl
      clear hl
      have HIl := HI.out wr l
      by_cases hboth : okL h l = true ∧ okL h leaf = true
      · obtain ⟨S, hS⟩ : ∃ S, shI h l leaf = S := ⟨_, rfl⟩
        have hS0 := shI_ok hboth.1 hboth.2
        have hS1 := (shI_bounds h l leaf).2
        rw [hS] at HIl hS0 hS1
        have HB : Hid (okL h l = true ∧ okL h leaf = true) := hboth
        have HE : Hid (dpTo h leaf (ls.take (j + 1)) = max D S) := by
          show _ = _
          rw [take_next ls 0 j (by rw [EN.out]; exact hjn), HL2.out, dpTo_snoc, HD.out, hS]
        clear hS hboth
        go_wp2_with fail
        refine HIl.mono ?_
        rintro e w2 ⟨rfl, rfl⟩
        by_cases hDS : D < S
        · have hm : max D S = S := by omega
          rw [hm] at HE
          clear hm
          go_wp2
          go_roundw
          case rel => exact ⟨j + 1, by omega, by go_num, by rw [HE.out], alls_take (d := 0) (by rw [EN.out]; exact hjn) HL.out (by rw [HL2.out]; exact HB.out.1), .inr HB.out.2, trivial⟩
          case measure => simp [intOf]; omega
        · have hm : max D S = D := by omega
          rw [hm] at HE
          clear hm
          go_wp2
          go_roundw
          case rel => exact ⟨j + 1, by omega, by go_num, by rw [HE.out], alls_take (d := 0) (by rw [EN.out]; exact hjn) HL.out (by rw [HL2.out]; exact HB.out.1), .inr HB.out.2, trivial⟩
          case measure => simp [intOf]; omega
      · have hk : okL h l = false ∨ okL h leaf = false := by
          cases h1 : okL h l
          · exact .inl rfl
          · cases h2 : okL h leaf
            · exact .inr rfl
            · exact (hboth ⟨h1, h2⟩).elim
        rw [shI_no hk] at HIl
        have e : ans = -1 := by
          rw [← HA.out]
          exact dpI_not (j := j) (by rw [EN.out]; exact hjn) (by rw [HL2.out]; exact hk)
        subst e
        clear hk hboth HA
        go_wp2_with fail
        refine HIl.mono ?_
        rintro e w2 ⟨rfl, rfl⟩
        go_wp2
        go_ret
        exact ⟨rfl, rfl⟩
    · obtain rfl : j = n := by omega
      have hji : ¬ ((j : Int) < j) := by omega
      have e : D = ans := by
        have e : ls.take j = ls := by rw [← EN.out, List.take_length]
        have h1 := HL.out
        have h2 := HD.out
        rw [e] at h1 h2
        rw [← HA.out, ← h2]
        refine (dpI_all h1 ?_).symm
        rcases HK.out with h0 | h0
        · exact .inl (List.eq_nil_of_length_eq_zero (by rw [EN.out]; exact h0))
        · exact .inr h0
      subst e
      clear HA
      go_wp2
      go_ret
      exact ⟨rfl, rfl⟩

theorem rdeepest_any {J : Nat → Prop} (w : World) (h leaf : Int) (v : Value) (ls : List Int) (hv : Lies J w v (ls.map (Value.int .i64))) (hl : ls.length ≤ 100000) :
    Calls Try.prog 17 #[.int .i64 h, v, .int .i64 leaf] w fun e w' => e = .returned (.int .i64 (dpI h ls leaf)) ∧ Chg no w w' := by
  obtain ⟨a, c, rfl, _⟩ := hv.slice
  simp only [List.length_map] at hv ⊢
  have HI : Hid (∀ (W : World) (l : Int), Calls Try.prog 37 #[.int .i64 h, .int .i64 l, .int .i64 leaf] W fun e w' => e = .returned (.int .i64 (shI h l leaf)) ∧ Chg no W w') := fun W l => rshared_any W h l leaf
  have HO : Hid (∀ (W : World) (l : Int), Calls Try.prog 36 #[.int .i64 h, .int .i64 l] W fun e w' => e = .returned (.bool (okL h l)) ∧ w' = W) := fun W l => rmayLeaf_any W h l
  obtain ⟨n, hn⟩ : ∃ n, ls.length = n := ⟨_, rfl⟩
  have EN : Hid (ls.length = n) := hn
  rw [hn] at hv hl ⊢
  have HV : Hid (Lies J w (.slice a n c) (ls.map (Value.int .i64))) := hv
  have hni : (n : Int) ≤ 100000 := by omega
  obtain ⟨ans, hans⟩ : ∃ x, dpI h ls leaf = x := ⟨_, rfl⟩
  have HA : Hid (dpI h ls leaf = ans) := hans
  rw [hans]
  clear hv hn hans hl
  go_enter Try.func17, Try.ntmps17
  go_wp2_with fail
  go_loopw [7, 8] (fun d i wr => ∃ j : Nat, j ≤ n ∧ i = .int .i64 (j : Int) ∧ d = .int .i64 (dpTo h leaf (ls.take j)) ∧ (ls.take j).all (okL h) = true ∧ (j = 0 ∨ okL h leaf = true) ∧ Chg no w wr) (fun _ i _ => n - (intOf i).toNat)
  case atStart => exact ⟨0, by omega, rfl, rfl, rfl, .inl rfl, Chg.refl no _⟩
  case round =>
    obtain ⟨j, hj, rfl, rfl, ht, hok, hC⟩ := hrel
    obtain ⟨D, hD⟩ : ∃ D, dpTo h leaf (ls.take j) = D := ⟨_, rfl⟩
    have HD : Hid (dpTo h leaf (ls.take j) = D) := hD
    have hDb := dpTo_bounds h leaf (ls.take j)
    rw [hD] at hDb ⊢
    have HC : Hid (Chg no w wr) := hC
    have HL : Hid ((ls.take j).all (okL h) = true) := ht
    have HK : Hid (j = 0 ∨ okL h leaf = true) := hok
    clear ht hok hD hC
    by_cases hjn : j < n
    · have hji : (j : Int) < n := by omega
      obtain ⟨x, rfl, hx⟩ := lies_at HV.out j (by rw [EN.out]; exact hjn)
      obtain ⟨l, hl⟩ : ∃ l, ls.getD j 0 = l := ⟨_, rfl⟩
      rw [hl] at hx
      have hx2 := HC.out.cell hx (fun h => h)
      have HL2 : Hid (ls.getD j 0 = l) := hl
      clear hl hx
      have HOl := HO.out wr l
      have HOf := HO.out wr leaf
      cases h1 : okL h l
      · have e : ans = -1 := by
          rw [← HA.out]
          exact dpI_not (j := j) (by rw [EN.out]; exact hjn) (by rw [HL2.out]; exact .inl h1)
        subst e
        rw [h1] at HOl
        clear h1 HA HOf
        go_wp2_with fail
        refine HOl.mono ?_
        rintro e w2 ⟨rfl, rfl⟩
        go_wp2
        go_ret
        exact ⟨rfl, HC.out⟩
      cases h2 : okL h leaf
      · have e : ans = -1 := by
          rw [← HA.out]
          exact dpI_not (j := j) (by rw [EN.out]; exact hjn) (by rw [HL2.out]; exact .inr h2)
        subst e
        rw [h1] at HOl
        rw [h2] at HOf
        clear h1 h2 HA
        go_wp2_with fail
        refine HOl.mono ?_
        rintro e w2 ⟨rfl, rfl⟩
        go_wp2_with fail
        refine HOf.mono ?_
        rintro e w2 ⟨rfl, rfl⟩
        go_wp2
        go_ret
        exact ⟨rfl, HC.out⟩
      rw [h1] at HOl
      rw [h2] at HOf
      obtain ⟨S, hS⟩ : ∃ S, shI h l leaf = S := ⟨_, rfl⟩
      have HIl := HI.out wr l
      have hS0 := shI_ok h1 h2
      have hS1 := (shI_bounds h l leaf).2
      rw [hS] at HIl hS0 hS1
      have HB : Hid (okL h l = true ∧ okL h leaf = true) := ⟨h1, h2⟩
      have HE : Hid (dpTo h leaf (ls.take (j + 1)) = max D S) := by
        show _ = _
        rw [take_next ls 0 j (by rw [EN.out]; exact hjn), HL2.out, dpTo_snoc, HD.out, hS]
      clear hS h1 h2
      go_wp2_with fail
      refine HOl.mono ?_
      rintro e w2 ⟨rfl, rfl⟩
      go_wp2_with fail
      refine HOf.mono ?_
      rintro e w2 ⟨rfl, rfl⟩
      clear HOl HOf
      go_wp2_with fail
      refine HIl.mono ?_
      rintro e w2 ⟨rfl, k2⟩
      have HC2 : Hid (Chg no w w2) := HC.out.then k2
      clear HIl k2 hx2
      by_cases hDS : D < S
      · have hm : max D S = S := by omega
        rw [hm] at HE
        clear hm
        go_wp2
        go_roundw
        case rel => exact ⟨j + 1, by omega, by go_num, by rw [HE.out], alls_take (d := 0) (by rw [EN.out]; exact hjn) HL.out (by rw [HL2.out]; exact HB.out.1), (by first | exact .inr HB.out.2 | exact .inr trivial), HC2.out⟩
        case measure => simp [intOf]; omega
      · have hm : max D S = D := by omega
        rw [hm] at HE
        clear hm
        go_wp2
        go_roundw
        case rel => exact ⟨j + 1, by omega, by go_num, by rw [HE.out], alls_take (d := 0) (by rw [EN.out]; exact hjn) HL.out (by rw [HL2.out]; exact HB.out.1), (by first | exact .inr HB.out.2 | exact .inr trivial), HC2.out⟩
        case measure => simp [intOf]; omega
    · obtain rfl : j = n := by omega
      have hji : ¬ ((j : Int) < j) := by omega
      have e : D = ans := by
        have e : ls.take j = ls := by rw [← EN.out, List.take_length]
        have h1 := HL.out
        have h2 := HD.out
        rw [e] at h1 h2
        rw [← HA.out, ← h2]
        refine (dpI_all h1 ?_).symm
        rcases HK.out with h0 | h0
        · exact .inl (List.eq_nil_of_length_eq_zero (by rw [EN.out]; exact h0))
        · exact .inr h0
      subst e
      clear HA
      go_wp2
      go_ret
      exact ⟨rfl, HC.out⟩

end Go.Proofs.Ytkaohjlnlgennaa.st
