/- Contracts of isNaN, Compare, compareID, BinarySearchFunc. -/
import Derived.Test.YtedhlidmmmlemaaArg
import Derived.Test.YtedhlidmmmlemaaSrt
namespace Go.Proofs.Ytedhlidmmmlemaa.st
open Go.ChangeShapes Go.WideShapes Go.ChangeAt Go.RowKit Go.Proofs.Ytedhlidmmmlemaa.hp
set_option linter.unusedVariables false

theorem isNaN_any (w : World) (a : Int) : Calls Try.prog 47 #[.int .i64 a] w fun e w' => e = .returned (.bool false) ∧ w' = w := by
  have h : (a != a) = false := by simp
  go_enter Try.func47, Try.ntmps47
  go_wp2
  go_ret
  exact ⟨rfl, rfl⟩

def cmpI (a b : Int) : Int := if a < b then -1 else if b < a then 1 else 0

theorem compare_any (w : World) (a b : Int) : Calls Try.prog 45 #[.int .i64 a, .int .i64 b] w fun e w' => e = .returned (.int .i64 (cmpI a b)) ∧ w' = w := by
  unfold cmpI
  have hc : a < b ∨ (b ≤ a ∧ b < a) ∨ (b ≤ a ∧ a ≤ b) := by omega
  have HA := isNaN_any w a
  have HB := isNaN_any w b
  rcases hc with h1 | ⟨h1, h2⟩ | ⟨h1, h2⟩
  · rw [if_pos h1]
    go_enter Try.func45, Try.ntmps45
    go_wp2_with fail
    refine HA.mono ?_
    rintro e w1 ⟨rfl, rfl⟩
    go_wp2_with fail
    refine HB.mono ?_
    rintro e w1 ⟨rfl, rfl⟩
    go_wp2
    go_ret
    exact ⟨rfl, rfl⟩
  · rw [if_neg (by omega), if_pos h2]
    go_enter Try.func45, Try.ntmps45
    go_wp2_with fail
    refine HA.mono ?_
    rintro e w1 ⟨rfl, rfl⟩
    go_wp2_with fail
    refine HB.mono ?_
    rintro e w1 ⟨rfl, rfl⟩
    go_wp2
    go_ret
    exact ⟨rfl, rfl⟩
  · rw [if_neg (by omega), if_neg (by omega)]
    go_enter Try.func45, Try.ntmps45
    go_wp2_with fail
    refine HA.mono ?_
    rintro e w1 ⟨rfl, rfl⟩
    go_wp2_with fail
    refine HB.mono ?_
    rintro e w1 ⟨rfl, rfl⟩
    go_wp2
    go_ret
    exact ⟨rfl, rfl⟩

theorem compareID_any (w : World) (i : Int) (a : Option Addr) (l c : Nat) (id : Int) : Calls Try.prog 41 #[bv i a l c, .int .i64 id] w fun e w' => e = .returned (.int .i64 (cmpI i id)) ∧ Chg no w w' := by
  have HC := fun W => compare_any W i id
  go_enter Try.func41, Try.ntmps41
  go_wp2_with fail
  refine (HC _).mono ?_
  rintro e w1 ⟨rfl, rfl⟩
  go_wp2
  go_ret
  exact ⟨rfl, (Chg.refl no w).alloc _⟩

set_option maxHeartbeats 4000000 in
theorem bsearch_any (w : World) (v : Value) (xs : List BV) (id : Int) (h : Bks w v xs) (hs : srt (abs xs)) (hx : xs.length ≤ 100000) :
    Calls Try.prog 40 #[v, .int .i64 id, .func (.func 41) #[] #[]] w fun e w' => e = .returned (.tuple #[.int .i64 (posL (abs xs) id : Nat), .bool (hasL (abs xs) id)]) ∧ Chg no w w' := by
  obtain ⟨a, cap, rfl⟩ := h.slice
  have HO : Hid (Bks w (.slice a xs.length cap) xs) := h
  have HS : Hid (srt (abs xs)) := hs
  obtain ⟨P, hP⟩ : ∃ P, posL (abs xs) id = P := ⟨_, rfl⟩
  obtain ⟨B, hB⟩ : ∃ B, hasL (abs xs) id = B := ⟨_, rfl⟩
  have HP : Hid (posL (abs xs) id = P) := hP
  have HB : Hid (hasL (abs xs) id = B) := hB
  obtain ⟨n, hn⟩ : ∃ n, xs.length = n := ⟨_, rfl⟩
  have HL : Hid (xs.length = n) := hn
  rw [hn] at HO hx ⊢
  rw [hP, hB]
  have hni : (n : Int) ≤ 100000 := by omega
  clear h hs hP hB hn
  go_enter Try.func40, Try.ntmps40
  go_wp2_with fail
  go_loopw [9, 10, 11] (fun i j _ wr => ∃ k m : Nat, k ≤ m ∧ m ≤ n ∧ i = .int .i64 (k : Int) ∧ j = .int .i64 (m : Int) ∧ Chg no w wr ∧ (∀ t, t < k → ((abs xs).getD t dBk).1 < id) ∧ (∀ t, m ≤ t → t < n → id ≤ ((abs xs).getD t dBk).1)) (fun i j _ _ => (intOf j).toNat - (intOf i).toNat)
  case atStart => exact ⟨0, n, by omega, by omega, rfl, rfl, Chg.refl no w, fun t ht => by omega, fun t h1 h2 => by omega⟩
  case round =>
    obtain ⟨k, m, hkm, hmn, rfl, rfl, hC, hA, hZ⟩ := hrel
    have HA : Hid (∀ t, t < k → ((abs xs).getD t dBk).1 < id) := hA
    have HZ : Hid (∀ t, m ≤ t → t < n → id ≤ ((abs xs).getD t dBk).1) := hZ
    have HC : Hid (Chg no w wr) := hC
    clear hA hZ
    by_cases hk : k < m
    · have hki : (k : Int) < m := by omega
      obtain ⟨q, hq, hq1, hq2⟩ : ∃ q : Nat, ((k : Int) + m) / 2 = q ∧ k ≤ q ∧ q < m := ⟨(k + m) / 2, by omega, by omega, by omega⟩
      obtain ⟨y, ab, cb, rfl, e0, e1, _, _, _, _, _⟩ := (HO.out.later hC).at q (by rw [HL.out]; omega)
      obtain ⟨⟨i1, v1, d1⟩, hx1⟩ : ∃ X, xs.getD q dBV = X := ⟨_, rfl⟩
      have HI : Hid (((abs xs).getD q dBk).1 = i1) := by
        show ((abs xs).getD q dBk).1 = i1
        rw [abs_getD, hx1]
        rfl
      rw [hx1] at e0 e1
      simp only at e0 e1
      have hqn : (q : Int) < n := by omega
      have HM := compareID_any wr i1 ab d1.length cb id
      obtain ⟨l1, hl1⟩ : ∃ l, d1.length = l := ⟨_, rfl⟩
      rw [hl1] at e1 HM
      have hsh1 : (((k : Int) + m) >>> 1) = q := by rw [Int.shiftRight_eq_div_pow]; simpa using hq
      have hsh2 : wrap64 ((k : Int) + m) = (k : Int) + m := by rw [IntWalk.wrap64_in _ ⟨by omega, by omega⟩]
      clear hx1 hl1 hC
      by_cases hc : i1 < id
      · have hcm : cmpI i1 id = -1 := if_pos hc
        rw [hcm] at HM
        have HA2 : Hid (∀ t, t < q + 1 → ((abs xs).getD t dBk).1 < id) := by
          intro t ht
          by_cases e : t = q
          · subst e
            rw [HI.out]
            exact hc
          · have := srt_get HS.out t q (by omega) (by rw [abs_len, HL.out]; omega)
            rw [HI.out] at this
            omega
        clear hcm hc
        go_wp2_with fail
        refine HM.mono ?_
        rintro e w2 ⟨rfl, k2⟩
        have HC2 : Hid (Chg no w w2) := HC.out.then k2
        clear k2 HM e0 e1
        go_wp2
        go_roundw
        case rel => exact ⟨q + 1, m, by omega, hmn, by go_num, rfl, HC2.out, HA2.out, HZ.out⟩
        case measure => simp [intOf]; omega
      · have hcm : 0 ≤ cmpI i1 id := by unfold cmpI; rw [if_neg hc]; split <;> omega
        obtain ⟨C, hC⟩ : ∃ C, cmpI i1 id = C := ⟨_, rfl⟩
        rw [hC] at HM hcm
        have HZ2 : Hid (∀ t, q ≤ t → t < n → id ≤ ((abs xs).getD t dBk).1) := by
          intro t h1 h2
          by_cases e : t = q
          · subst e
            rw [HI.out]
            omega
          · have := srt_get HS.out q t (by omega) (by rw [abs_len, HL.out]; omega)
            rw [HI.out] at this
            omega
        clear hC hc
        go_wp2_with fail
        refine HM.mono ?_
        rintro e w2 ⟨rfl, k2⟩
        have HC2 : Hid (Chg no w w2) := HC.out.then k2
        clear k2 HM e0 e1
        go_wp2
        go_roundw
        case rel => exact ⟨k, q, by omega, by omega, rfl, rfl, HC2.out, HA.out, HZ2.out⟩
        case measure => simp [intOf]; omega
    · obtain rfl : k = m := by omega
      have hkk : (k : Int) ≤ k := by omega
      obtain rfl : k = P := by
        rw [← HP.out]
        exact pos_eq (abs xs) id k (by rw [abs_len, HL.out]; omega) HA.out (fun h => HZ.out k (by omega) (by rw [abs_len, HL.out] at h; omega))
      have HB2 : Hid (decide (k < n ∧ ((abs xs).getD k dBk).1 = id) = B) := by
        have := HB.out
        unfold hasL at this
        rw [HP.out, abs_len, HL.out] at this
        exact this
      clear HP HB hk
      by_cases hkn : k < n
      · have hkni : (k : Int) < n := by omega
        have hd : decide ((k : Int) < n) = true := by simp; omega
        obtain ⟨y, ab, cb, rfl, e0, e1, _, _, _, _, _⟩ := (HO.out.later hC).at k (by rw [HL.out]; omega)
        obtain ⟨⟨i1, v1, d1⟩, hx1⟩ : ∃ X, xs.getD k dBV = X := ⟨_, rfl⟩
        have hI : ((abs xs).getD k dBk).1 = i1 := by
          rw [abs_getD, hx1]
          rfl
        have hI2 := HZ.out k (by omega) hkn
        have hB3 := HB2.out
        rw [hI] at hI2 hB3
        rw [hx1] at e0 e1
        simp only at e0 e1
        obtain ⟨l1, hl1⟩ : ∃ l, d1.length = l := ⟨_, rfl⟩
        rw [hl1] at e1
        have HM := compareID_any wr i1 ab l1 cb id
        have hcm : (cmpI i1 id == 0) = B := by
          rw [← hB3]
          unfold cmpI
          rw [if_neg (by omega)]
          by_cases e : i1 = id
          · subst e
            simp [hkn]
          · rw [if_pos (by omega)]
            simp [e]
        obtain ⟨C, hCC⟩ : ∃ C, cmpI i1 id = C := ⟨_, rfl⟩
        rw [hCC] at HM hcm
        clear hx1 hl1 hC hI hI2 hB3 hCC HB2 HZ HA
        go_wp2_with fail
        refine HM.mono ?_
        rintro e w2 ⟨rfl, k2⟩
        have HC2 : Hid (Chg no w w2) := HC.out.then k2
        clear k2 HM e0 e1
        go_wp2
        go_ret2
        exact ⟨rfl, HC2.out⟩
      · have hkni : (n : Int) ≤ k := by omega
        have hd : decide ((k : Int) < n) = false := by simp; omega
        have hB : B = false := by
          rw [← HB2.out]
          simp [hkn]
        subst hB
        clear HB2 HZ HA hC
        go_wp2
        go_ret2
        exact ⟨rfl, HC.out⟩

end Go.Proofs.Ytedhlidmmmlemaa.st
