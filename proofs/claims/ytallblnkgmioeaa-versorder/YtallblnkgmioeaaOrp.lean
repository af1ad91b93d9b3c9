/- VersOrder's walk. -/
import Derived.Test.YtallblnkgmioeaaOrd
namespace Go.Proofs.Ytallblnkgmioeaa.order
open Go.ChangeShapes Go.WideShapes Go.ChangeAt Go.RowKit Go.Proofs.Ytallblnkgmioeaa.hp Go.Proofs.Ytallblnkgmioeaa.bt Go.Proofs.Ytallblnkgmioeaa.st
set_option linter.unusedVariables false
set_option linter.unusedSimpArgs false
variable {Bt : (Nat → Prop) → World → Value → List Int → Prop}

theorem okF_rev (n : Nat) (l : List Int) : okF n l.reverse = okF n l := by unfold okF; rw [List.all_reverse]

theorem okF_take (n k : Nat) (l : List Int) (h : okF n l = true) : okF n (l.take k) = true ∧ okF n (l.drop k) = true := by
  unfold okF at h ⊢
  rw [← List.take_append_drop k l, List.all_append, Bool.and_eq_true] at h
  exact h

theorem flipI_ok {x : List Int} {n : Nat} {l : List Int} (hx : x.length = n) (h : okF n l = true) : flipI x l = (flipX x l, true) := by
  unfold flipI
  rw [hx, if_pos h]

theorem flipI_no {x : List Int} {n : Nat} {l : List Int} (hx : x.length = n) (h : okF n l = false) : flipI x l = (x, false) := by
  unfold flipI
  rw [hx, if_neg (by rw [h]; decide)]

theorem lies_back {J : Nat → Prop} {w : World} {x : Addr} {n c : Nat} {zs : List Int} (h : Lies J w (.slice (some x) n c) (zs.map (Value.int .i64))) (hn : zs.length = n) (k : Nat) (hk : k ≤ n) : Lies J w (.slice (some (x.add k)) (n - k) (c - k)) ((zs.drop k).map (Value.int .i64)) := by
  rcases h with ⟨h1, _⟩ | ⟨y, cap, h1, hJ, hc⟩
  · cases h1
  · cases h1
    refine .inr ⟨x.add k, c - k, by simp, fun hne => ?_, fun i u hu => ?_⟩
    · rw [add_block]
      refine hJ fun e => hne ?_
      have : zs = [] := by simpa using e
      rw [this]
      simp
    · rw [List.map_drop, List.getElem?_drop] at hu
      have := hc _ _ hu
      rw [← this]
      congr 1
      by_cases h1 : i = 0 <;> by_cases h2 : k = 0 <;> simp [Addr.add, h1, h2, Nat.add_assoc]

set_option maxRecDepth 100000 in
set_option maxHeartbeats 8000000 in
theorem restP (V : Ways Bt) (w : World) (n cut : Nat) (x : Addr) (c : Nat) (l : List Int) (A : Lies (Old w) w (.slice (some x) l.length c) (l.map (Value.int .i64))) (hca : l.length ≤ c) (hlt : cut < c) (hh : l.length ≤ 200) (hc : cut ≤ l.length) (hd : l.Nodup) (hmn : mayN n = true) :
    Calls Try.prog 6 #[.int .i64 n, .slice (some x) l.length c, .int .i64 cut] w fun e w' => e = .returned (.bool true) ∧ Below w.heap.size w w' := by
  obtain ⟨i0, hi0, hz0, hz1, hz2⟩ := info_parts info3
  have hn : (1 : Int) ≤ n ∧ (n : Int) ≤ 127 := of_decide_eq_true hmn
  have HT : Hid (∀ W, Chg no w W → Calls Try.prog 24 #[.slice (some x) l.length c] W fun e w' => e = .returned (.bool false) ∧ Chg no W w') := fun W k => by
    have := twice_any W (some x) c l (A.chg k (fun _ _ h => h)) hca (by omega)
    rw [decide_eq_true hd] at this
    exact this
  have HN : Hid (∀ W, Calls Try.prog 9 #[.int .i64 n] W fun e w' => ∃ p, e = .returned (.pointer (some p)) ∧ Nob Bt W w' (.pointer (some p)) (List.replicate n 0)) := fun W => by
    refine (V.new1 W n hmn).mono ?_
    rintro e w' ⟨p, F, rfl, a, b, c⟩
    exact ⟨p, rfl, F, a, b, c⟩
  have HA : Hid (∀ W, Chg no w W → Lies (Old w) W (.slice (some x) l.length c) (l.map (Value.int .i64))) := fun W k => A.chg k (fun _ _ h => h)
  obtain ⟨Z, hZ⟩ : ∃ Z, List.replicate n (0 : Int) = Z := ⟨_, rfl⟩
  have hZl : Z.length = n := by rw [← hZ]; simp
  have HZL : Hid (Z.length = n) := hZl
  obtain ⟨m, hm⟩ : ∃ m, l.length = m := ⟨_, rfl⟩
  have HM : Hid (l.length = m) := hm
  have HD : Hid (l.Nodup) := hd
  simp only [hm] at HT hh hc hca HA ⊢
  simp only [hZ] at HN
  have hi : ¬ (200 : Int) < m := by omega
  have hmi : (m : Int) ≤ 200 := by omega
  have hc0 : ¬ (cut : Int) < 0 := by omega
  have hc1 : ¬ (m : Int) < cut := by omega
  have hni : (n : Int) ≤ 127 := hn.2
  clear hm A hd hmn hZ hZl hn
  go_enter Try.func6, Try.ntmps6
  go_wp2_with fail
  refine (first_any V _).mono ?_
  rintro e w1 ⟨rfl, k1⟩
  have HT1 := HT.out w1 k1
  go_wp2_with fail
  refine HT1.mono ?_
  rintro e w2 ⟨rfl, k2⟩
  have K2 : Hid (Chg no w w2) := k1.then k2
  have HN2 := HN.out w2
  clear HT1 HT k1 k2
  go_wp2_with fail
  refine HN2.mono ?_
  rintro e w3 ⟨p, rfl, N3⟩
  have HN3 := HN.out w3
  clear HN2
  go_wp2_with fail
  refine HN3.mono ?_
  rintro e w4 ⟨q, rfl, N4⟩
  have HN4 := HN.out w4
  clear HN3
  go_wp2_with fail
  refine HN4.mono ?_
  rintro e w5 ⟨r, rfl, N5⟩
  have HT5 : Hid (Tri Bt w2.heap.size w5.heap.size w5 (.pointer (some p)) (.pointer (some q)) (.pointer (some r)) Z Z Z) := Tri.mk V N3 N4 N5
  have K5 : Hid (Chg no w2 w5) := (N3.chg.then N4.chg).then N5.chg
  clear HN4 N3 N4 N5 HN
  go_wp2_with fail
  go_loopw [10] (fun iv wr => ∃ i : Nat, i ≤ m ∧ iv = .int .i64 (i : Int) ∧ okF n (l.take i) = true ∧ Chg no w5 wr) (fun iv _ => m - (intOf iv).toNat)
  case atStart => exact ⟨0, by omega, rfl, rfl, Chg.refl no _⟩
  case round =>
    obtain ⟨i, hi', rfl, hok, hC⟩ := hrel
    have HC : Hid (Chg no w5 wr) := hC
    have HO : Hid (okF n (l.take i) = true) := hok
    have HTw : Hid (Tri Bt w2.heap.size w5.heap.size wr (.pointer (some p)) (.pointer (some q)) (.pointer (some r)) Z Z Z) := HT5.out.later V hC
    have Kw : Hid (Chg no w2 wr) := K5.out.then hC
    clear hok hC
    by_cases him : i < m
    · have hii : (i : Int) < m := by omega
      obtain ⟨y, hy', hy⟩ := lies_at (HA.out wr (K2.out.then Kw.out)) i (by rw [HM.out]; exact him)
      cases hy'
      obtain ⟨u, hu⟩ : ∃ u, l.getD i 0 = u := ⟨_, rfl⟩
      have HT' : Hid (l.take (i + 1) = l.take i ++ [u]) := by show _ = _; rw [take_next l 0 i (by rw [HM.out]; exact him), hu]
      have HUm : Hid (u ∈ l) := by show _ ∈ _; rw [← hu]; exact getD_mem (by rw [HM.out]; exact him)
      rw [hu] at hy
      clear hu
      by_cases hbad : u < 0 ∨ (n : Int) ≤ u
      · have hno : okF n l = false := by
          unfold okF
          rw [List.all_eq_false]
          exact ⟨u, HUm.out, by simp; omega⟩
        have HF : Hid (∀ W, Chg no w W → Tri Bt w2.heap.size w5.heap.size W (.pointer (some p)) (.pointer (some q)) (.pointer (some r)) Z Z Z → Calls Try.prog 13 #[.pointer (some p), .slice (some x) m c] W fun e w' => e = .returned (.bool false) ∧ Tri Bt w2.heap.size w5.heap.size w' (.pointer (some p)) (.pointer (some q)) (.pointer (some r)) Z Z Z ∧ Chg (fun k => w2.heap.size ≤ k ∧ k < w5.heap.size) W w') := fun W k h => by
          have hl := HA.out W k
          rw [← HM.out] at hl hca ⊢
          have := Tri.flip V h hl (fun k' hk' => by have h1 : k' < w.heap.size := hk'; have := K2.out.size; omega) hca (by rw [HM.out]; omega)
          rw [HZL.out, hno, flipI_no HZL.out hno] at this
          exact this
        have HBI : Hid (∀ W v (y z : List Int) (b' c' : Value), Tri Bt w2.heap.size w5.heap.size W v b' c' Z y z → Calls Try.prog 16 #[v] W fun e w' => ∃ a m c, e = .returned (.slice a m c) ∧ New W Z (.slice a m c) w') := fun W v y z b' c' h => by
          obtain ⟨F, G, H, q1, _⟩ := h
          refine (bits_any V W v Z q1).mono ?_
          rintro e w' ⟨v', rfl, N⟩
          obtain ⟨a, c, rfl⟩ := N.shape
          exact ⟨a, _, c, rfl, N⟩
        clear hno
        rcases hbad with hb | hb
        all_goals
          first | have hb0 : ¬ u < 0 := by omega | skip
          go_wp2_with fail
          refine (first_any V _).mono ?_
          rintro e w7 ⟨rfl, k7⟩
          have HF7 := HF.out w7 ((K2.out.then Kw.out).then k7) (HTw.out.later V k7)
          have K7 : Hid (Chg no w2 w7) := Kw.out.then k7
          clear k7 HF
          go_wp2_with fail
          refine HF7.mono ?_
          rintro e w8 ⟨rfl, T8, k8⟩
          have HT8 : Hid (Tri Bt w2.heap.size w5.heap.size w8 (.pointer (some p)) (.pointer (some q)) (.pointer (some r)) Z Z Z) := T8
          have K8 : Hid (Chg no w2 w8) := K7.out.trans k8 (fun k hk => .inr hk.1)
          have HB8 := HBI.out w8 _ _ _ _ _ T8
          clear HF7 T8 k8
          go_wp2_with fail
          refine HB8.mono ?_
          rintro e w9 ⟨x9, m9, c9, rfl, N9⟩
          have HN9 : Hid (New w8 Z (.slice x9 m9 c9) w9) := N9
          have HT9 : Hid (Tri Bt w2.heap.size w5.heap.size w9 (.pointer (some p)) (.pointer (some q)) (.pointer (some r)) Z Z Z) := HT8.out.later V N9.2
          have HB9 := HBI.out w9 _ _ _ _ _ HT9.out.turn
          clear HB8 N9 HT8
          go_wp2_with fail
          refine HB9.mono ?_
          rintro e w10 ⟨x10, m10, c10, rfl, N10⟩
          have K10 : Hid (Chg no w2 w10) := (K8.out.then HN9.out.2).then N10.2
          have HI10 := ints_same w10 _ _ Z (HN9.out.chg N10.2).lies N10.lies (by rw [HZL.out]; omega)
          clear HB9 N10 HT9 HN9
          go_wp2_with fail
          refine HI10.mono ?_
          rintro e w11 ⟨rfl, n11, hw11⟩
          have K11 : Hid (Chg no w w11) := by
            show Chg _ _ _
            rw [hw11]
            exact (K2.out.then K10.out).drewN n11
          clear hw11
          go_wp2
          go_ret
          exact ⟨rfl, K11.out.below⟩
      · have hb0 : ¬ u < 0 := by omega
        have hb1 : ¬ (n : Int) ≤ u := by omega
        have HO2 : Hid (okF n (l.take (i + 1)) = true) := by
          show _ = _
          rw [HT'.out]
          have := HO.out
          unfold okF at this ⊢
          rw [List.all_append, this]
          simp
          omega
        go_wp2
        go_roundw
        case rel => exact ⟨i + 1, by omega, by go_num, HO2.out, HC.out⟩
        case measure => simp [intOf]; omega
    · obtain rfl : i = m := by omega
      have hii : ¬ ((i : Int) < i) := by omega
      have hall : okF n l = true := by
        have := HO.out
        rw [take_all l i HM.out] at this
        exact this
      obtain ⟨X, hX⟩ : ∃ X, flipX Z l = X := ⟨_, rfl⟩
      obtain ⟨C, hCx⟩ : ∃ C, flipX Z (l.take cut) = C := ⟨_, rfl⟩
      have hXl : X.length = n := by rw [← hX, flipX_len, HZL.out]
      have hCl : C.length = n := by rw [← hCx, flipX_len, HZL.out]
      have hrev : flipX Z l.reverse = X := by
        rw [← hX]
        refine flip_order _ _ _ fun b => ?_
        rw [Bool.eq_iff_iff, List.contains_iff_mem, List.contains_iff_mem, List.mem_reverse]
      have hcut : flipX C (l.drop cut) = X := by
        rw [← hCx, ← hX, flip_cut _ _ _ (by rw [List.take_append_drop]; exact HD.out), List.take_append_drop]
      have F1 := flipI_ok HZL.out hall
      have F2 := flipI_ok (l := l.reverse) HZL.out (by rw [okF_rev]; exact hall)
      have F3 := flipI_ok HZL.out (okF_take n cut l hall).1
      have F4 := flipI_ok (l := l.drop cut) hCl (okF_take n cut l hall).2
      rw [hX] at F1
      rw [hrev] at F2
      rw [hCx] at F3
      rw [hcut] at F4
      have HFa : Hid (∀ W b' c' y z, Chg no w W → Tri Bt w2.heap.size w5.heap.size W (.pointer (some p)) b' c' Z y z → Calls Try.prog 13 #[.pointer (some p), .slice (some x) i c] W fun e w' => e = .returned (.bool true) ∧ Tri Bt w2.heap.size w5.heap.size w' (.pointer (some p)) b' c' X y z ∧ Chg (fun k => w2.heap.size ≤ k ∧ k < w5.heap.size) W w') := fun W b' c' y z k h => by
        have hl := HA.out W k
        have hca' := hca
        rw [← HM.out] at hl hca' ⊢
        have := Tri.flip V h hl (fun k' hk' => by have h1 : k' < w.heap.size := hk'; have := K2.out.size; omega) hca' (by rw [HM.out]; omega)
        rw [HZL.out, hall, F1] at this
        exact this
      have HFb : Hid (∀ W a' c' y z (s : Option Addr) (d : Nat), i ≤ d → Lies (fun k => w5.heap.size ≤ k) W (.slice s i d) (l.reverse.map (Value.int .i64)) → Tri Bt w2.heap.size w5.heap.size W (.pointer (some q)) a' c' Z y z → Calls Try.prog 13 #[.pointer (some q), .slice s i d] W fun e w' => e = .returned (.bool true) ∧ Tri Bt w2.heap.size w5.heap.size w' (.pointer (some q)) a' c' X y z ∧ Chg (fun k => w2.heap.size ≤ k ∧ k < w5.heap.size) W w') := fun W a' c' y z s d hcap hl h => by
        have e : l.reverse.length = i := by rw [List.length_reverse, HM.out]
        rw [← e] at hl hcap ⊢
        have := Tri.flip V h hl (fun k' hk' => .inr hk') hcap (by rw [e]; omega)
        rw [HZL.out, okF_rev, hall, F2] at this
        exact this
      have HFc : Hid (∀ W a' b' y z, Chg no w W → Tri Bt w2.heap.size w5.heap.size W (.pointer (some r)) a' b' Z y z → Calls Try.prog 13 #[.pointer (some r), .slice (some x) cut c] W fun e w' => e = .returned (.bool true) ∧ Tri Bt w2.heap.size w5.heap.size w' (.pointer (some r)) a' b' C y z ∧ Chg (fun k => w2.heap.size ≤ k ∧ k < w5.heap.size) W w') := fun W a' b' y z k h => by
        have hl := lies_front (HA.out W k) HM.out cut hc (by simp)
        have e : (l.take cut).length = cut := by rw [List.length_take, HM.out]; omega
        have hl : Lies (Old w) W (.slice (some x) (l.take cut).length c) ((l.take cut).map (Value.int .i64)) := by rw [e]; exact hl
        have hd1 : (l.take cut).length ≤ c := by omega
        have hd2 : (l.take cut).length ≤ 100000 := by omega
        have := Tri.flip V h hl (fun k' hk' => by have h1 : k' < w.heap.size := hk'; have := K2.out.size; omega) hd1 hd2
        rw [HZL.out, (okF_take n cut l hall).1, F3, e] at this
        exact this
      have HFd : Hid (∀ W a' b' y z, Chg no w W → Tri Bt w2.heap.size w5.heap.size W (.pointer (some r)) a' b' C y z → Calls Try.prog 13 #[.pointer (some r), .slice (some (x.add cut)) (i - cut) (c - cut)] W fun e w' => e = .returned (.bool true) ∧ Tri Bt w2.heap.size w5.heap.size w' (.pointer (some r)) a' b' X y z ∧ Chg (fun k => w2.heap.size ≤ k ∧ k < w5.heap.size) W w') := fun W a' b' y z k h => by
        have hl := lies_back (HA.out W k) HM.out cut hc
        have e : (l.drop cut).length = i - cut := by rw [List.length_drop, HM.out]
        have hl : Lies (Old w) W (.slice (some (x.add cut)) (l.drop cut).length (c - cut)) ((l.drop cut).map (Value.int .i64)) := by rw [e]; exact hl
        have hd1 : (l.drop cut).length ≤ c - cut := by omega
        have hd2 : (l.drop cut).length ≤ 100000 := by omega
        have := Tri.flip V h hl (fun k' hk' => by have h1 : k' < w.heap.size := hk'; have := K2.out.size; omega) hd1 hd2
        rw [hCl, (okF_take n cut l hall).2, F4, e] at this
        exact this
      have HBI : Hid (∀ W v (y z : List Int) (b' c' : Value), Tri Bt w2.heap.size w5.heap.size W v b' c' X y z → Calls Try.prog 16 #[v] W fun e w' => ∃ a m c, e = .returned (.slice a m c) ∧ New W X (.slice a m c) w') := fun W v y z b' c' h => by
        obtain ⟨F, G, H, q1, _⟩ := h
        refine (bits_any V W v X q1).mono ?_
        rintro e w' ⟨v', rfl, N⟩
        obtain ⟨a, c, rfl⟩ := N.shape
        exact ⟨a, _, c, rfl, N⟩
      have HBY : Hid (∀ W v (y z : List Int) (b' c' : Value), Tri Bt w2.heap.size w5.heap.size W v b' c' X y z → Calls Try.prog 18 #[v] W fun e w' => ∃ a m c, e = .returned (.slice a m c) ∧ NewB W (bytesOf X) (.slice a m c) w' ∧ Bytes (bytesOf X)) := fun W v y z b' c' h => by
        obtain ⟨F, G, H, q1, _⟩ := h
        have hb := bytesOf_bytes X (V.facts q1).1
        refine (V.bytes q1).mono ?_
        rintro e w' ⟨v', rfl, N⟩
        obtain ⟨a, c, rfl⟩ := N.shape
        exact ⟨a, _, c, rfl, N, hb⟩
      have HRL : Hid (l.reverse.length = i) := by show _ = _; rw [List.length_reverse, HM.out]
      have HRG : Hid (∀ j t, j < i → t = i - 1 - j → l.reverse.getD j 0 = l.getD t 0) := fun j t hj ht => by
        rw [List.getD_eq_getElem?_getD, List.getElem?_reverse (by rw [HM.out]; exact hj), HM.out, List.getD_eq_getElem?_getD, ht]
      have HXL : Hid (X.length = n) := hXl
      have hcc : (cut : Int) ≤ c := by omega
      have hs56 := HC.out.size
      have hci : (cut : Int) ≤ i := by omega
      clear hall hX hCx hXl hCl hrev hcut F1 F2 F3 F4 HO HC
      go_wp2_with fail
      rename World => w6
      go_loopw [11, 12] (fun tv jv wq => ∃ j : Nat, j ≤ i ∧ jv = .int .i64 ((i : Int) - 1 - (j : Int)) ∧ New w6 (l.reverse.take j) tv wq) (fun _ jv _ => (intOf jv + 1).toNat)
      case atStart => exact ⟨0, by omega, by congr 1; omega, New.nil _⟩
      case round =>
        obtain ⟨j, hj, rfl, hN⟩ := hrel
        obtain ⟨ta, tc, rfl⟩ := hN.shape
        by_cases hji : j < i
        · obtain ⟨t, ht⟩ : ∃ t : Nat, (i : Int) - 1 - (j : Int) = (t : Int) := ⟨i - 1 - j, by omega⟩
          have htm : t < i := by omega
          have hti : (t : Int) < i := by omega
          have ht0 : (0 : Int) ≤ t := by omega
          rw [ht]
          obtain ⟨y, hy', hy⟩ := lies_at (HA.out wr ((K2.out.then Kw.out).then hN.2)) t (by rw [HM.out]; exact htm)
          cases hy'
          have hsn := take_next l.reverse 0 j (by rw [HRL.out]; exact hji)
          rw [HRG.out j t hji (by omega)] at hsn
          obtain ⟨B, hB⟩ : ∃ B, l.getD t 0 = B := ⟨_, rfl⟩
          obtain ⟨T, hT⟩ : ∃ T, l.reverse.take j = T := ⟨_, rfl⟩
          have hTk : T.length ≤ j := by rw [← hT]; exact List.length_take_le _ _
          rw [hB] at hy hsn
          rw [hT] at hN hsn ⊢
          have HNT : Hid (New w6 T (.slice ta T.length tc) wr) := hN
          have HE : Hid (l.reverse.take (j + 1) = T ++ [B]) := hsn
          have HW : Hid (Lies (fun _ => True) (wr.alloc (.cells #[.int .i64 B] 3)) (.slice (some ⟨wr.heap.size, 0, none⟩) 1 1) ([B].map (Value.int .i64))) := .inr ⟨_, 1, rfl, fun _ => trivial, fun j u hu => news_at (xs := [.int .i64 B]) j u hu⟩
          clear hN hsn hB hT
          go_wp2_with (at_builtin; refine wpList_append_grew rfl _ _ 24 rfl 3 i0 (.int .i64 0) 8 Try.underlying24 hi0 hz0 hz1 hz2 rfl (.slice ta T.length tc) T.length (T.map (Value.int .i64)) rfl (owns_base (HNT.out.chg ((Chg.refl no wr).alloc _)).1 (Nat.zero_le _)) (fun _ => True) (.slice (some ⟨wr.heap.size, 0, none⟩) 1 1) ([B].map (Value.int .i64)) rfl HW.out (ints_one _) (by simp; unfold maxLen; omega) (by simp; omega) ?_; intro v5' w5' G5)
          have HN5 : Hid (New w6 (T ++ [B]) v5' w5') := (HNT.out.chg ((Chg.refl no wr).alloc _)).grew G5 rfl
          obtain ⟨a5, c5, rfl⟩ := HN5.out.shape
          clear G5 HNT HW
          go_wp2
          go_roundw
          case rel => exact ⟨j + 1, by omega, by congr 1; omega, by rw [HE.out]; exact HN5.out⟩
          case measure => first | (simp [intOf]; done) | (simp [intOf]; omega)
        · obtain rfl : j = i := by omega
          have hneg : (j : Int) - 1 - (j : Int) = -1 := by omega
          rw [take_all l.reverse j HRL.out] at hN
          have HL0 : Hid (l.reverse.length = j) := HRL.out
          rw [take_all l.reverse j HRL.out, HL0.out, hneg]
          rw [HL0.out] at hN
          have hcap : j ≤ tc := by
            have o := hN.1
            rw [HL0.out] at o
            rcases o.2 with ⟨hv, h0⟩ | ⟨g, cap, cur, hv, _, _, hle, _⟩
            · simp only [Value.slice.injEq] at hv
              omega
            · cases hv
              exact hle
          have HLr : Hid (Lies (fun k => w5.heap.size ≤ k) wr (.slice ta j tc) (l.reverse.map (Value.int .i64))) := (hN.lies).mono (fun k hk => by have := hk.1; omega)
          have K7 : Hid (Chg no w2 wr) := Kw.out.then hN.2
          have HTr : Hid (Tri Bt w2.heap.size w5.heap.size wr (.pointer (some p)) (.pointer (some q)) (.pointer (some r)) Z Z Z) := HTw.out.later V hN.2
          have HA1 := HFa.out wr _ _ _ _ (K2.out.then K7.out) HTr.out
          clear hN hneg HTw Kw hs56
          go_wp2_with fail
          refine HA1.mono ?_
          rintro e w8 ⟨rfl, T8, k8⟩
          have K8 : Hid (Chg no w2 w8) := K7.out.trans k8 (fun k hk => .inr hk.1)
          have hl8 := HLr.out.chg k8 (fun k hk hf => by have := hf.2; omega)
          have HB8 := HFb.out w8 _ _ _ _ _ _ hcap hl8 T8.turn
          clear HA1 T8 k8 HTr hl8 K7 HLr
          go_wp2_with fail
          refine HB8.mono ?_
          rintro e w9 ⟨rfl, T9, k9⟩
          have K9 : Hid (Chg no w2 w9) := K8.out.trans k9 (fun k hk => .inr hk.1)
          have HC9 := HFc.out w9 _ _ _ _ (K2.out.then K9.out) T9.turn
          clear HB8 T9 k9 K8
          go_wp2_with fail
          refine HC9.mono ?_
          rintro e w10 ⟨rfl, T10, k10⟩
          have K10 : Hid (Chg no w2 w10) := K9.out.trans k10 (fun k hk => .inr hk.1)
          have HD10 := HFd.out w10 _ _ _ _ (K2.out.then K10.out) T10
          clear HC9 T10 k10 K9
          go_wp2_with fail
          refine HD10.mono ?_
          rintro e w11 ⟨rfl, T11, k11⟩
          have K11 : Hid (Chg no w2 w11) := K10.out.trans k11 (fun k hk => .inr hk.1)
          have HT11 : Hid (Tri Bt w2.heap.size w5.heap.size w11 (.pointer (some p)) (.pointer (some q)) (.pointer (some r)) X X X) := T11.turn
          clear HD10 T11 k11 K10
          go_wp2_with fail
          refine (first_any V _).mono ?_
          rintro e w12 ⟨rfl, k12⟩
          have HT12 : Hid (Tri Bt w2.heap.size w5.heap.size w12 (.pointer (some p)) (.pointer (some q)) (.pointer (some r)) X X X) := HT11.out.later V k12
          have K12 : Hid (Chg no w2 w12) := K11.out.then k12
          have HB12 := HBI.out w12 _ _ _ _ _ HT12.out
          clear k12 HT11 K11
          go_wp2_with fail
          refine HB12.mono ?_
          rintro e w13 ⟨x13, m13, c13, rfl, N13⟩
          have HN13 : Hid (New w12 X (.slice x13 m13 c13) w13) := N13
          have HT13 : Hid (Tri Bt w2.heap.size w5.heap.size w13 (.pointer (some p)) (.pointer (some q)) (.pointer (some r)) X X X) := HT12.out.later V N13.2
          have HB13 := HBI.out w13 _ _ _ _ _ HT13.out.turn
          clear HB12 N13 HT12
          go_wp2_with fail
          refine HB13.mono ?_
          rintro e w14 ⟨x14, m14, c14, rfl, N14⟩
          have HT14 : Hid (Tri Bt w2.heap.size w5.heap.size w14 (.pointer (some p)) (.pointer (some q)) (.pointer (some r)) X X X) := HT13.out.later V N14.2
          have K14 : Hid (Chg no w2 w14) := (K12.out.then HN13.out.2).then N14.2
          have HI14 := ints_same w14 _ _ X (HN13.out.chg N14.2).lies N14.lies (by rw [HXL.out]; omega)
          clear HB13 N14 HT13 HN13 K12
          go_wp2_with fail
          refine HI14.mono ?_
          rintro e w15 ⟨rfl, n15, hw15⟩
          have k15 : Chg no w14 w15 := by rw [hw15]; exact (Chg.refl no _).drewN n15
          have HT15 : Hid (Tri Bt w2.heap.size w5.heap.size w15 (.pointer (some p)) (.pointer (some q)) (.pointer (some r)) X X X) := HT14.out.later V k15
          have K15 : Hid (Chg no w2 w15) := K14.out.then k15
          have HB15 := HBI.out w15 _ _ _ _ _ HT15.out
          clear HI14 hw15 k15 HT14 K14
          go_wp2_with fail
          refine HB15.mono ?_
          rintro e w16 ⟨x16, m16, c16, rfl, N16⟩
          have HN16 : Hid (New w15 X (.slice x16 m16 c16) w16) := N16
          have HT16 : Hid (Tri Bt w2.heap.size w5.heap.size w16 (.pointer (some p)) (.pointer (some q)) (.pointer (some r)) X X X) := HT15.out.later V N16.2
          have HB16 := HBI.out w16 _ _ _ _ _ HT16.out.turn.turn
          clear HB15 N16 HT15
          go_wp2_with fail
          refine HB16.mono ?_
          rintro e w17 ⟨x17, m17, c17, rfl, N17⟩
          have HT17 : Hid (Tri Bt w2.heap.size w5.heap.size w17 (.pointer (some p)) (.pointer (some q)) (.pointer (some r)) X X X) := HT16.out.later V N17.2
          have K17 : Hid (Chg no w2 w17) := (K15.out.then HN16.out.2).then N17.2
          have HI17 := ints_same w17 _ _ X (HN16.out.chg N17.2).lies N17.lies (by rw [HXL.out]; omega)
          clear HB16 N17 HT16 HN16 K15
          go_wp2_with fail
          refine HI17.mono ?_
          rintro e w18 ⟨rfl, n18, hw18⟩
          have k18 : Chg no w17 w18 := by rw [hw18]; exact (Chg.refl no _).drewN n18
          have HT18 : Hid (Tri Bt w2.heap.size w5.heap.size w18 (.pointer (some p)) (.pointer (some q)) (.pointer (some r)) X X X) := HT17.out.later V k18
          have K18 : Hid (Chg no w2 w18) := K17.out.then k18
          have HY18 := HBY.out w18 _ _ _ _ _ HT18.out
          clear HI17 hw18 k18 HT17 K17
          go_wp2_with fail
          refine HY18.mono ?_
          rintro e w19 ⟨x19, m19, c19, rfl, N19, hby⟩
          have HN19 : Hid (NewB w18 (bytesOf X) (.slice x19 m19 c19) w19) := N19
          have HT19 : Hid (Tri Bt w2.heap.size w5.heap.size w19 (.pointer (some p)) (.pointer (some q)) (.pointer (some r)) X X X) := HT18.out.later V N19.2
          have HY19 := HBY.out w19 _ _ _ _ _ HT19.out.turn.turn
          have HBy : Hid (Bytes (bytesOf X)) := hby
          clear HY18 N19 HT18 hby
          go_wp2_with fail
          refine HY19.mono ?_
          rintro e w20 ⟨x20, m20, c20, rfl, N20, _⟩
          have K20 : Hid (Chg no w2 w20) := (K18.out.then HN19.out.2).then N20.2
          have HEQ := bytes_any (HN19.out.chg N20.2).lies N20.lies HBy.out HBy.out
          rw [decide_eq_true rfl] at HEQ
          clear HY19 N20 HT19 HN19
          go_wp2_with fail
          refine HEQ.mono ?_
          rintro e w21 ⟨rfl, hw21⟩
          subst hw21
          go_wp2
          go_ret
          exact ⟨rfl, (K2.out.then K20.out).below⟩

end Go.Proofs.Ytallblnkgmioeaa.order
