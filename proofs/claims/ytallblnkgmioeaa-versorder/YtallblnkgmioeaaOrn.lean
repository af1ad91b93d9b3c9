/- VersOrder's walk, of no list. -/
import Derived.Test.YtallblnkgmioeaaOrd
namespace Go.Proofs.Ytallblnkgmioeaa.order
open Go.ChangeShapes Go.WideShapes Go.ChangeAt Go.RowKit Go.Proofs.Ytallblnkgmioeaa.hp Go.Proofs.Ytallblnkgmioeaa.bt Go.Proofs.Ytallblnkgmioeaa.st
set_option linter.unusedVariables false
set_option linter.unusedSimpArgs false
variable {Bt : (Nat → Prop) → World → Value → List Int → Prop}

set_option maxRecDepth 100000 in
set_option maxHeartbeats 8000000 in
theorem restN (V : Ways Bt) (w : World) (n : Nat) (hmn : mayN n = true) :
    Calls Try.prog 6 #[.int .i64 n, .slice none 0 0, .int .i64 0] w fun e w' => e = .returned (.bool true) ∧ Below w.heap.size w w' := by
  have hn : (1 : Int) ≤ n ∧ (n : Int) ≤ 127 := of_decide_eq_true hmn
  have HT : Hid (∀ W, Calls Try.prog 24 #[.slice none 0 0] W fun e w' => e = .returned (.bool false) ∧ Chg no W w') := fun W => twice_any W none 0 [] (.inl ⟨rfl, rfl⟩ : Lies no W (.slice none 0 0) []) (by simp) (by simp)
  have HN : Hid (∀ W, Calls Try.prog 9 #[.int .i64 n] W fun e w' => ∃ p, e = .returned (.pointer (some p)) ∧ Nob Bt W w' (.pointer (some p)) (List.replicate n 0)) := fun W => by
    refine (V.new1 W n hmn).mono ?_
    rintro e w' ⟨p, F, rfl, a, b, c⟩
    exact ⟨p, rfl, F, a, b, c⟩
  obtain ⟨Z, hZ⟩ : ∃ Z, List.replicate n (0 : Int) = Z := ⟨_, rfl⟩
  have hZl : Z.length = n := by rw [← hZ]; simp
  have HZL : Hid (Z.length = n) := hZl
  simp only [hZ] at HN
  have hni : (n : Int) ≤ 127 := hn.2
  clear hmn hZ hZl hn
  go_enter Try.func6, Try.ntmps6
  go_wp2_with fail
  refine (first_any V _).mono ?_
  rintro e w1 ⟨rfl, k1⟩
  have HT1 := HT.out w1
  go_wp2_with fail
  refine HT1.mono ?_
  rintro e w2 ⟨rfl, k2⟩
  have K2 : Hid (Chg no w w2) := k1.then k2
  have HN2 := HN.out w2
  clear HT1 HT k1 k2
  go_wp2_with fail
  refine HN2.mono ?_
  rintro e w3 ⟨p, rfl, N3⟩
  have HN3 := HN.out w3
  clear HN2
  go_wp2_with fail
  refine HN3.mono ?_
  rintro e w4 ⟨q, rfl, N4⟩
  have HN4 := HN.out w4
  clear HN3
  go_wp2_with fail
  refine HN4.mono ?_
  rintro e w5 ⟨r, rfl, N5⟩
  have HT5 : Hid (Tri Bt w2.heap.size w5.heap.size w5 (.pointer (some p)) (.pointer (some q)) (.pointer (some r)) Z Z Z) := Tri.mk V N3 N4 N5
  have K5 : Hid (Chg no w2 w5) := (N3.chg.then N4.chg).then N5.chg
  clear HN4 N3 N4 N5 HN
  have HFa : Hid (∀ W v b' c' y z, Tri Bt w2.heap.size w5.heap.size W v b' c' Z y z → Calls Try.prog 13 #[v, .slice none 0 0] W fun e w' => e = .returned (.bool true) ∧ Tri Bt w2.heap.size w5.heap.size w' v b' c' Z y z ∧ Chg (fun k => w2.heap.size ≤ k ∧ k < w5.heap.size) W w') := fun W v b' c' y z h => by
    have := Tri.flip V (l := []) (K := no) (s := none) (d := 0) h (.inl ⟨rfl, rfl⟩) (fun _ h => h.elim) (by simp) (by simp)
    have e : flipI Z [] = (Z, true) := by
      unfold flipI
      rw [if_pos (by rfl), flipX_nil]
    rw [e] at this
    exact this
  have HBI : Hid (∀ W v (y z : List Int) (b' c' : Value), Tri Bt w2.heap.size w5.heap.size W v b' c' Z y z → Calls Try.prog 16 #[v] W fun e w' => ∃ a m c, e = .returned (.slice a m c) ∧ New W Z (.slice a m c) w') := fun W v y z b' c' h => by
    obtain ⟨F, G, H, q1, _⟩ := h
    refine (bits_any V W v Z q1).mono ?_
    rintro e w' ⟨v', rfl, N⟩
    obtain ⟨a, c, rfl⟩ := N.shape
    exact ⟨a, _, c, rfl, N⟩
  have HBY : Hid (∀ W v (y z : List Int) (b' c' : Value), Tri Bt w2.heap.size w5.heap.size W v b' c' Z y z → Calls Try.prog 18 #[v] W fun e w' => ∃ a m c, e = .returned (.slice a m c) ∧ NewB W (bytesOf Z) (.slice a m c) w' ∧ Bytes (bytesOf Z)) := fun W v y z b' c' h => by
    obtain ⟨F, G, H, q1, _⟩ := h
    have hb := bytesOf_bytes Z (V.facts q1).1
    refine (V.bytes q1).mono ?_
    rintro e w' ⟨v', rfl, N⟩
    obtain ⟨a, c, rfl⟩ := N.shape
    exact ⟨a, _, c, rfl, N, hb⟩
  go_wp2_with fail
  go_loopw [10] (fun iv wr => iv = .int .i64 0 ∧ Chg no w5 wr) (fun _ _ => 0)
  case atStart => exact ⟨rfl, Chg.refl no _⟩
  case round =>
    obtain ⟨rfl, hC⟩ := hrel
    have HTw : Hid (Tri Bt w2.heap.size w5.heap.size wr (.pointer (some p)) (.pointer (some q)) (.pointer (some r)) Z Z Z) := HT5.out.later V hC
    have Kw : Hid (Chg no w2 wr) := K5.out.then hC
    clear hC
    go_wp2_with fail
    rename World => w6
    go_loopw [11, 12] (fun tv jv wq => tv = .slice none 0 0 ∧ jv = .int .i64 (-1) ∧ Chg no w6 wq) (fun _ _ _ => 0)
    case atStart => exact ⟨rfl, rfl, Chg.refl no _⟩
    case round =>
      obtain ⟨rfl, rfl, hN⟩ := hrel
      have K7 : Hid (Chg no w2 wr) := Kw.out.then hN
      have HTr : Hid (Tri Bt w2.heap.size w5.heap.size wr (.pointer (some p)) (.pointer (some q)) (.pointer (some r)) Z Z Z) := HTw.out.later V hN
      have HA1 := HFa.out wr _ _ _ _ _ HTr.out
      clear hN HTw Kw
      go_wp2_with fail
      refine HA1.mono ?_
      rintro e w8 ⟨rfl, T8, k8⟩
      have K8 : Hid (Chg no w2 w8) := K7.out.trans k8 (fun k hk => .inr hk.1)
      have HB8 := HFa.out w8 _ _ _ _ _ T8.turn
      clear HA1 T8 k8 HTr K7
      go_wp2_with fail
      refine HB8.mono ?_
      rintro e w9 ⟨rfl, T9, k9⟩
      have K9 : Hid (Chg no w2 w9) := K8.out.trans k9 (fun k hk => .inr hk.1)
      have HC9 := HFa.out w9 _ _ _ _ _ T9.turn
      clear HB8 T9 k9 K8
      go_wp2_with fail
      refine HC9.mono ?_
      rintro e w10 ⟨rfl, T10, k10⟩
      have K10 : Hid (Chg no w2 w10) := K9.out.trans k10 (fun k hk => .inr hk.1)
      have HD10 := HFa.out w10 _ _ _ _ _ T10
      clear HC9 T10 k10 K9
      go_wp2_with fail
      refine HD10.mono ?_
      rintro e w11 ⟨rfl, T11, k11⟩
      have K11 : Hid (Chg no w2 w11) := K10.out.trans k11 (fun k hk => .inr hk.1)
      have HT11 : Hid (Tri Bt w2.heap.size w5.heap.size w11 (.pointer (some p)) (.pointer (some q)) (.pointer (some r)) Z Z Z) := T11.turn
      clear HD10 T11 k11 K10
      go_wp2_with fail
      refine (first_any V _).mono ?_
      rintro e w12 ⟨rfl, k12⟩
      have HT12 : Hid (Tri Bt w2.heap.size w5.heap.size w12 (.pointer (some p)) (.pointer (some q)) (.pointer (some r)) Z Z Z) := HT11.out.later V k12
      have K12 : Hid (Chg no w2 w12) := K11.out.then k12
      have HB12 := HBI.out w12 _ _ _ _ _ HT12.out
      clear k12 HT11 K11
      go_wp2_with fail
      refine HB12.mono ?_
      rintro e w13 ⟨x13, m13, c13, rfl, N13⟩
      have HN13 : Hid (New w12 Z (.slice x13 m13 c13) w13) := N13
      have HT13 : Hid (Tri Bt w2.heap.size w5.heap.size w13 (.pointer (some p)) (.pointer (some q)) (.pointer (some r)) Z Z Z) := HT12.out.later V N13.2
      have HB13 := HBI.out w13 _ _ _ _ _ HT13.out.turn
      clear HB12 N13 HT12
      go_wp2_with fail
      refine HB13.mono ?_
      rintro e w14 ⟨x14, m14, c14, rfl, N14⟩
      have HT14 : Hid (Tri Bt w2.heap.size w5.heap.size w14 (.pointer (some p)) (.pointer (some q)) (.pointer (some r)) Z Z Z) := HT13.out.later V N14.2
      have K14 : Hid (Chg no w2 w14) := (K12.out.then HN13.out.2).then N14.2
      have HI14 := ints_same w14 _ _ Z (HN13.out.chg N14.2).lies N14.lies (by rw [HZL.out]; omega)
      clear HB13 N14 HT13 HN13 K12
      go_wp2_with fail
      refine HI14.mono ?_
      rintro e w15 ⟨rfl, n15, hw15⟩
      have k15 : Chg no w14 w15 := by rw [hw15]; exact (Chg.refl no _).drewN n15
      have HT15 : Hid (Tri Bt w2.heap.size w5.heap.size w15 (.pointer (some p)) (.pointer (some q)) (.pointer (some r)) Z Z Z) := HT14.out.later V k15
      have K15 : Hid (Chg no w2 w15) := K14.out.then k15
      have HB15 := HBI.out w15 _ _ _ _ _ HT15.out
      clear HI14 hw15 k15 HT14 K14
      go_wp2_with fail
      refine HB15.mono ?_
      rintro e w16 ⟨x16, m16, c16, rfl, N16⟩
      have HN16 : Hid (New w15 Z (.slice x16 m16 c16) w16) := N16
      have HT16 : Hid (Tri Bt w2.heap.size w5.heap.size w16 (.pointer (some p)) (.pointer (some q)) (.pointer (some r)) Z Z Z) := HT15.out.later V N16.2
      have HB16 := HBI.out w16 _ _ _ _ _ HT16.out.turn.turn
      clear HB15 N16 HT15
      go_wp2_with fail
      refine HB16.mono ?_
      rintro e w17 ⟨x17, m17, c17, rfl, N17⟩
      have HT17 : Hid (Tri Bt w2.heap.size w5.heap.size w17 (.pointer (some p)) (.pointer (some q)) (.pointer (some r)) Z Z Z) := HT16.out.later V N17.2
      have K17 : Hid (Chg no w2 w17) := (K15.out.then HN16.out.2).then N17.2
      have HI17 := ints_same w17 _ _ Z (HN16.out.chg N17.2).lies N17.lies (by rw [HZL.out]; omega)
      clear HB16 N17 HT16 HN16 K15
      go_wp2_with fail
      refine HI17.mono ?_
      rintro e w18 ⟨rfl, n18, hw18⟩
      have k18 : Chg no w17 w18 := by rw [hw18]; exact (Chg.refl no _).drewN n18
      have HT18 : Hid (Tri Bt w2.heap.size w5.heap.size w18 (.pointer (some p)) (.pointer (some q)) (.pointer (some r)) Z Z Z) := HT17.out.later V k18
      have K18 : Hid (Chg no w2 w18) := K17.out.then k18
      have HY18 := HBY.out w18 _ _ _ _ _ HT18.out
      clear HI17 hw18 k18 HT17 K17
      go_wp2_with fail
      refine HY18.mono ?_
      rintro e w19 ⟨x19, m19, c19, rfl, N19, hby⟩
      have HN19 : Hid (NewB w18 (bytesOf Z) (.slice x19 m19 c19) w19) := N19
      have HT19 : Hid (Tri Bt w2.heap.size w5.heap.size w19 (.pointer (some p)) (.pointer (some q)) (.pointer (some r)) Z Z Z) := HT18.out.later V N19.2
      have HY19 := HBY.out w19 _ _ _ _ _ HT19.out.turn.turn
      have HBy : Hid (Bytes (bytesOf Z)) := hby
      clear HY18 N19 HT18 hby
      go_wp2_with fail
      refine HY19.mono ?_
      rintro e w20 ⟨x20, m20, c20, rfl, N20, _⟩
      have K20 : Hid (Chg no w2 w20) := (K18.out.then HN19.out.2).then N20.2
      have HEQ := bytes_any (HN19.out.chg N20.2).lies N20.lies HBy.out HBy.out
      rw [decide_eq_true rfl] at HEQ
      clear HY19 N20 HT19 HN19
      go_wp2_with fail
      refine HEQ.mono ?_
      rintro e w21 ⟨rfl, hw21⟩
      subst hw21
      go_wp2
      go_ret
      exact ⟨rfl, (K2.out.then K20.out).below⟩

end Go.Proofs.Ytallblnkgmioeaa.order
