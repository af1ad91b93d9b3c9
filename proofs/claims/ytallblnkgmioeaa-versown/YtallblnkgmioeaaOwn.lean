/- The law VersOwn, walked. -/
import Derived.Test.YtallblnkgmioeaaTwo
import Derived.Below
namespace Go.Proofs.Ytallblnkgmioeaa.own
open Go.ChangeShapes Go.WideShapes Go.ChangeAt Go.RowKit Go.Proofs.Ytallblnkgmioeaa.hp Go.Proofs.Ytallblnkgmioeaa.bt Go.Proofs.Ytallblnkgmioeaa.st
set_option linter.unusedVariables false
set_option linter.unusedSimpArgs false
variable {Bt : (Nat → Prop) → World → Value → List Int → Prop}

set_option maxRecDepth 100000 in
set_option maxHeartbeats 2000000 in
theorem none1 (V : Ways Bt) (w : World) (n b : Int) (hm : mayN n = false) :
    Calls Try.prog 7 #[.int .i64 n, .int .i64 b] w fun e w' => e = .returned (.bool true) ∧ Below w.heap.size w w' := by
  have HN := fun W => V.new0 W n hm
  clear hm
  go_enter Try.func7, Try.ntmps7
  go_wp2_with fail
  refine (first_any V _).mono ?_
  rintro e w1 ⟨rfl, k1⟩
  go_wp2_with fail
  refine (HN _).mono ?_
  rintro e w2 ⟨rfl, k2⟩
  go_wp2_with fail
  refine (first_any V _).mono ?_
  rintro e w3 ⟨rfl, k3⟩
  go_wp2
  go_ret
  exact ⟨rfl, ((k1.then k2).then k3).below⟩

set_option maxRecDepth 100000 in
set_option maxHeartbeats 2000000 in
theorem out1 (V : Ways Bt) (w : World) (n : Nat) (b : Int) (hm : mayN n = true) (hb : b < 0 ∨ (n : Int) ≤ b) :
    Calls Try.prog 7 #[.int .i64 n, .int .i64 b] w fun e w' => e = .returned (.bool true) ∧ Below w.heap.size w w' := by
  have HN := fun W => V.new1 W n hm
  clear hm
  by_cases h0 : b < 0
  · clear hb
    go_enter Try.func7, Try.ntmps7
    go_wp2_with fail
    refine (first_any V _).mono ?_
    rintro e w1 ⟨rfl, k1⟩
    go_wp2_with fail
    refine (HN _).mono ?_
    rintro e w2 ⟨p, F, rfl, _, _, k2⟩
    go_wp2_with fail
    refine (first_any V _).mono ?_
    rintro e w3 ⟨rfl, k3⟩
    go_wp2
    go_ret
    exact ⟨rfl, ((k1.then k2).then k3).below⟩
  · have h1 : (n : Int) ≤ b := by omega
    clear hb
    go_enter Try.func7, Try.ntmps7
    go_wp2_with fail
    refine (first_any V _).mono ?_
    rintro e w1 ⟨rfl, k1⟩
    go_wp2_with fail
    refine (HN _).mono ?_
    rintro e w2 ⟨p, F, rfl, _, _, k2⟩
    go_wp2_with fail
    refine (first_any V _).mono ?_
    rintro e w3 ⟨rfl, k3⟩
    go_wp2
    go_ret
    exact ⟨rfl, ((k1.then k2).then k3).below⟩

set_option maxRecDepth 100000 in
set_option maxHeartbeats 8000000 in
theorem good (V : Ways Bt) (w : World) (n b : Nat) (hm : mayN n = true) (hb : b < n) :
    Calls Try.prog 7 #[.int .i64 n, .int .i64 b] w fun e w' => e = .returned (.bool true) ∧ Below w.heap.size w w' := by
  have hn : (1 : Int) ≤ n ∧ (n : Int) ≤ 127 := of_decide_eq_true hm
  have HN : Hid (∀ W, Calls Try.prog 9 #[.int .i64 n] W fun e w' => ∃ p, e = .returned (.pointer (some p)) ∧ Nob Bt W w' (.pointer (some p)) (List.replicate n 0)) := fun W => by
    refine (V.new1 W n hm).mono ?_
    rintro e w' ⟨p, F, rfl, a, b, c⟩
    exact ⟨p, rfl, F, a, b, c⟩
  obtain ⟨Z, hZ⟩ : ∃ Z, List.replicate n (0 : Int) = Z := ⟨_, rfl⟩
  obtain ⟨X, hX⟩ : ∃ X, flipX Z [(b : Int)] = X := ⟨_, rfl⟩
  have hZl : Z.length = n := by rw [← hZ]; simp
  have hXl : X.length = n := by rw [← hX, flipX_len, hZl]
  have hXX : flipX X [(b : Int)] = Z := by rw [← hX, flip_twice]
  have l0 : liveI Z (b : Int) = 0 := by rw [← hZ]; exact live_zeros n b hb
  have l1 : liveI X (b : Int) = 1 := by rw [← hX, ← hZ]; exact live_turned n b hb
  have HC : Hid (∀ w0 W p, Nob Bt w0 W (.pointer (some p)) Z → Calls Try.prog 11 #[.pointer (some p)] W fun e w' => ∃ q, e = .returned (.pointer (some q)) ∧ Two Bt w0 w' (.pointer (some p)) (.pointer (some q)) Z Z) := fun w0 W p h => Two.copy V h
  have HF1 : Hid (∀ w0 W p q y, Two Bt w0 W (.pointer (some p)) (.pointer (some q)) Z y → Calls Try.prog 13 #[.pointer (some p), .slice (some ⟨W.heap.size, 0, none⟩) 1 1] (W.alloc (.cells #[.int .i64 (b : Int)] 3)) fun e w' => e = .returned (.bool true) ∧ Two Bt w0 w' (.pointer (some p)) (.pointer (some q)) X y) := fun w0 W p q y h => by
    have := Two.flip_new V [(b : Int)] h (by simp)
    rw [hZl, okF_one n b hb, flipI_one Z b (by rw [hZl]; exact hb)] at this
    simp only [hX] at this
    exact this
  have HF3 : Hid (∀ w0 W p q y, Two Bt w0 W (.pointer (some p)) (.pointer (some q)) X y → Calls Try.prog 13 #[.pointer (some p), .slice (some ⟨W.heap.size, 0, none⟩) 1 1] (W.alloc (.cells #[.int .i64 (b : Int)] 3)) fun e w' => e = .returned (.bool true) ∧ Two Bt w0 w' (.pointer (some p)) (.pointer (some q)) Z y) := fun w0 W p q y h => by
    have := Two.flip_new V [(b : Int)] h (by simp)
    rw [hXl, okF_one n b hb, flipI_one X b (by rw [hXl]; exact hb)] at this
    simp only [hXX] at this
    exact this
  have HF2 : Hid (∀ w0 W p q y, Two Bt w0 W (.pointer (some p)) (.pointer (some q)) Z y → Calls Try.prog 13 #[.pointer (some p), .slice (some ⟨W.heap.size, 0, none⟩) 2 2] (W.alloc (.cells #[.int .i64 (b : Int), .int .i64 (b : Int)] 3)) fun e w' => e = .returned (.bool true) ∧ Two Bt w0 w' (.pointer (some p)) (.pointer (some q)) X y) := fun w0 W p q y h => by
    have := Two.flip_new V [(b : Int), (b : Int)] h (by simp)
    rw [hZl, okF_same n b hb, flipI_same Z b (by rw [hZl]; exact hb)] at this
    simp only [hX] at this
    exact this
  have HL0 : Hid (∀ w0 W v, Nob Bt w0 W v Z → Calls Try.prog 22 #[v, .int .i64 (b : Int)] W fun e w' => e = .returned (.int .i64 0) ∧ ∃ n, w' = W.drewN n) := fun w0 W v h => by
    have := live_of V (b : Int) h
    rw [l0] at this
    exact this
  have HL1 : Hid (∀ w0 W v, Nob Bt w0 W v X → Calls Try.prog 22 #[v, .int .i64 (b : Int)] W fun e w' => e = .returned (.int .i64 1) ∧ ∃ n, w' = W.drewN n) := fun w0 W v h => by
    have := live_of V (b : Int) h
    rw [l1] at this
    exact this
  have HB : Hid (∀ w0 W v, Nob Bt w0 W v X → Calls Try.prog 18 #[v] W fun e w' => ∃ a c, e = .returned (.slice a ((n + 7) / 8) c) ∧ NewB W (bytesOf X) (.slice a ((n + 7) / 8) c) w') := fun w0 W v h => by
    refine (bytes_of' V h).mono ?_
    rintro e w' ⟨v', rfl, N⟩
    obtain ⟨a, c, rfl⟩ := N.shape
    have e : (bytesOf X).length = (n + 7) / 8 := by unfold bytesOf; rw [bytesTo_len, hXl]
    rw [e] at N ⊢
    exact ⟨a, c, rfl, N⟩
  have hXb : ∀ w0 W v, Nob Bt w0 W v X → Bytes (bytesOf X) := fun w0 W v h => bytesOf_bytes X (h.bin V).1
  obtain ⟨S, hS⟩ : ∃ S, bytesOf X = S := ⟨_, rfl⟩
  have hSl : S.length = (n + 7) / 8 := by rw [← hS]; unfold bytesOf; rw [bytesTo_len, hXl]
  obtain ⟨M, hM⟩ : ∃ M, (n + 7) / 8 = M := ⟨_, rfl⟩
  have hq : ((n : Int) + 7).tdiv 8 = (M : Int) := by
    have := tdiv_nat (n + 7) 8
    rw [hM] at this
    exact this
  have hM1 : 1 ≤ M := by omega
  have hM2 : M ≤ 16 := by omega
  have hMi : (M : Int) ≤ 16 := by omega
  simp only [hZ, hS, hM] at HN HB hXb hSl
  have HXB : Hid (∀ w0 W v, Nob Bt w0 W v X → Bytes S) := hXb
  have HSL : Hid (S.length = M) := hSl
  have hb0 : ¬ (b : Int) < 0 := by omega
  have hb1 : ¬ (n : Int) ≤ b := by omega
  have hni : (n : Int) ≤ 127 := hn.2
  clear hm hn hZ hX hZl hXl hXX l0 l1 hS hXb hSl hM
  go_enter Try.func7, Try.ntmps7
  go_wp2_with fail
  refine (first_any V _).mono ?_
  rintro e w1 ⟨rfl, k1⟩
  have HN1 := HN.out w1
  go_wp2_with fail
  refine HN1.mono ?_
  rintro e w2 ⟨p, rfl, N2⟩
  have K1 : Hid (Chg no w w1) := k1
  have HC2 := HC.out w1 w2 p N2
  clear HN1 N2 k1 HN HC
  go_wp2_with fail
  refine HC2.mono ?_
  rintro e w3 ⟨q, rfl, T3⟩
  have HF := HF1.out w1 w3 p q Z T3
  clear HC2 T3
  go_wp2_with fail
  refine HF.mono ?_
  rintro e w4 ⟨rfl, T4⟩
  have HT4 : Hid (Two Bt w1 w4 (.pointer (some p)) (.pointer (some q)) X Z) := T4
  have HLc := HL0.out w1 w4 _ T4.swap.left
  clear HF T4
  go_wp2_with fail
  refine HLc.mono ?_
  rintro e w5 ⟨rfl, n5, hw5⟩
  have HT5 : Hid (Two Bt w1 w5 (.pointer (some p)) (.pointer (some q)) X Z) := by
    show Two _ _ _ _ _ _ _
    rw [hw5]
    exact HT4.out.later V ((Chg.refl no _).drewN n5)
  have HLv := HL1.out w1 w5 _ HT5.out.left
  clear HLc hw5 HT4
  go_wp2_with fail
  refine HLv.mono ?_
  rintro e w6 ⟨rfl, n6, hw6⟩
  have HT6 : Hid (Two Bt w1 w6 (.pointer (some p)) (.pointer (some q)) X Z) := by
    show Two _ _ _ _ _ _ _
    rw [hw6]
    exact HT5.out.later V ((Chg.refl no _).drewN n6)
  have HFF := HF2.out w1 w6 q p X HT6.out.swap
  clear HLv hw6 HT5
  go_wp2_with fail
  refine HFF.mono ?_
  rintro e w7 ⟨rfl, T7⟩
  have HT7 : Hid (Two Bt w1 w7 (.pointer (some p)) (.pointer (some q)) X X) := T7.swap
  have HB7 := HB.out w1 w7 _ HT7.out.left
  clear HFF T7 HT6
  go_wp2_with fail
  refine HB7.mono ?_
  rintro e w8 ⟨ba, bc, rfl, N8⟩
  have HT8 : Hid (Two Bt w1 w8 (.pointer (some p)) (.pointer (some q)) X X) := HT7.out.later V N8.2
  have HNB : Hid (NewB w7 S (.slice ba M bc) w8) := N8
  have HB8 := HB.out w1 w8 _ HT8.out.swap.left
  clear HB7 N8
  go_wp2_with fail
  refine HB8.mono ?_
  rintro e w9 ⟨bb, bd, rfl, N9⟩
  have HT9 : Hid (Two Bt w1 w9 (.pointer (some p)) (.pointer (some q)) X X) := HT8.out.later V N9.2
  have HNB9 : Hid (NewB w7 S (.slice ba M bc) w9) := HNB.out.chg N9.2
  have HEQ := bytes_any HNB9.out.lies N9.lies (HXB.out _ _ _ HT9.out.left) (HXB.out _ _ _ HT9.out.left)
  rw [decide_eq_true rfl] at HEQ
  clear HB8 N9 HNB HT8
  go_wp2_with fail
  refine HEQ.mono ?_
  rintro e w10 ⟨rfl, hw10⟩
  subst hw10
  clear HEQ HT9
  go_wp2_with fail
  rename World => w11
  go_loopw [8] (fun iv wr => ∃ i : Nat, i ≤ M ∧ iv = .int .i64 (i : Int) ∧ ∃ zs : List Int, zs.length = M ∧ NewB w7 zs (.slice ba M bc) wr) (fun iv _ => M - (intOf iv).toNat)
  case atStart => exact ⟨0, by omega, rfl, S, HSL.out, HNB9.out⟩
  case round =>
    clear HNB9
    obtain ⟨i, hi', rfl, zs, hzl, hZ⟩ := hrel
    by_cases hiM : i < M
    · have hii : (i : Int) < M := by omega
      have o := hZ.1
      rw [hzl] at o
      obtain ⟨u, hu⟩ : ∃ u, zs[i]? = some u := ⟨_, List.getElem?_eq_getElem (by rw [hzl]; exact hiM)⟩
      obtain ⟨g, rfl, _, o2, o3⟩ := owns_at (k := i) (u := .int .u8 u) o (by rw [List.getElem?_map, hu]; rfl)
      have HZ : Hid (NewB w7 zs (.slice (some ⟨g, 0, none⟩) M bc) wr) := hZ
      have HZL : Hid (zs.length = M) := hzl
      clear o hu hZ hzl
      go_wp2
      go_roundw
      case rel => exact ⟨i + 1, by omega, by go_num, zs.set i 255, by rw [List.length_set]; exact HZL.out, HZ.out.set 255⟩
      case measure => simp [intOf]; omega
    · obtain rfl : i = M := by omega
      have hii : ¬ ((i : Int) < i) := by omega
      have HT10 : Hid (Two Bt w1 wr (.pointer (some p)) (.pointer (some q)) X X) := HT7.out.later V hZ.2
      clear hZ hzl HT7
      go_wp2_with fail
      refine (first_any V _).mono ?_
      rintro e w12 ⟨rfl, k12⟩
      have HT12 : Hid (Two Bt w1 w12 (.pointer (some p)) (.pointer (some q)) X X) := HT10.out.later V k12
      have HBv := HB.out w1 w12 _ HT12.out.left
      clear k12 HT10
      go_wp2_with fail
      refine HBv.mono ?_
      rintro e w13 ⟨x13, c13, rfl, N13⟩
      have HT13 : Hid (Two Bt w1 w13 (.pointer (some p)) (.pointer (some q)) X X) := HT12.out.later V N13.2
      have HN13 : Hid (NewB w12 S (.slice x13 i c13) w13) := N13
      have HBc := HB.out w1 w13 _ HT13.out.swap.left
      clear HBv N13 HT12
      go_wp2_with fail
      refine HBc.mono ?_
      rintro e w14 ⟨x14, c14, rfl, N14⟩
      have HT14 : Hid (Two Bt w1 w14 (.pointer (some p)) (.pointer (some q)) X X) := HT13.out.later V N14.2
      have HEQ := bytes_any (HN13.out.chg N14.2).lies N14.lies (HXB.out _ _ _ HT14.out.left) (HXB.out _ _ _ HT14.out.left)
      rw [decide_eq_true rfl] at HEQ
      clear HBc N14 HN13 HT13
      go_wp2_with fail
      refine HEQ.mono ?_
      rintro e w15 ⟨rfl, hw15⟩
      subst hw15
      have HFv := HF3.out w1 w15 p q X HT14.out
      clear HEQ HT14
      go_wp2_with fail
      refine HFv.mono ?_
      rintro e w16 ⟨rfl, T16⟩
      have HT16 : Hid (Two Bt w1 w16 (.pointer (some p)) (.pointer (some q)) Z X) := T16
      have HLv := HL0.out w1 w16 _ T16.left
      clear HFv T16
      go_wp2_with fail
      refine HLv.mono ?_
      rintro e w17 ⟨rfl, n17, hw17⟩
      have HT17 : Hid (Two Bt w1 w17 (.pointer (some p)) (.pointer (some q)) Z X) := by
        show Two _ _ _ _ _ _ _
        rw [hw17]
        exact HT16.out.later V ((Chg.refl no _).drewN n17)
      have HLc := HL1.out w1 w17 _ HT17.out.swap.left
      clear HLv hw17 HT16
      go_wp2_with fail
      refine HLc.mono ?_
      rintro e w18 ⟨rfl, n18, hw18⟩
      have K18 : Hid (Chg no w w18) := by
        show Chg _ _ _
        rw [hw18]
        exact (K1.out.then HT17.out.chg).drewN n18
      clear hw18
      go_wp2
      go_ret
      exact ⟨rfl, K18.out.below⟩

end Go.Proofs.Ytallblnkgmioeaa.own
