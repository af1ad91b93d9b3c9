/- The law VersTwice, walked. -/
import Derived.Test.YtallblnkgmioeaaTwo
import Derived.Test.YtallblnkgmioeaaRea
import Derived.Below
namespace Go.Proofs.Ytallblnkgmioeaa.twice
open Go.ChangeShapes Go.WideShapes Go.ChangeAt Go.RowKit Go.Proofs.Ytallblnkgmioeaa.hp Go.Proofs.Ytallblnkgmioeaa.bt Go.Proofs.Ytallblnkgmioeaa.st
set_option linter.unusedVariables false
set_option linter.unusedSimpArgs false
variable {Bt : (Nat → Prop) → World → Value → List Int → Prop}

theorem flipI_len (x l : List Int) : (flipI x l).1.length = x.length := by
  unfold flipI
  split
  · exact flipX_len x l
  · rfl

theorem flipI_bin {x : List Int} (h : Bin x) (l : List Int) : Bin (flipI x l).1 := by
  unfold flipI
  split
  · exact flipX_bin h l
  · exact h

theorem flipI_back (x l : List Int) : (flipI (flipI x l).1 l).1 = x := by
  unfold flipI
  by_cases h : okF x.length l = true
  · rw [if_pos h]
    simp only
    rw [if_pos (by rw [flipX_len]; exact h)]
    exact flip_twice x l
  · rw [if_neg h]
    simp only
    rw [if_neg h]

theorem parse_back {n : Nat} {x : List Int} (hm : mayN n = true) (hx : Bin x) (hl : x.length = n) : parseI n (bytesOf x) = (x, 0) := by
  unfold parseI
  have e1 : (bytesOf x).length = (n + 7) / 8 := by unfold bytesOf; rw [bytesTo_len, hl]
  have e2 : bitsOf n (bytesOf x) = x := by
    have := bits_back x hx
    rw [hl] at this
    exact this
  rw [if_neg (by rw [hm]; decide), Int.toNat_natCast, if_neg (by rw [e1]; simp), e2, if_pos rfl]

theorem bit_at {x : List Int} (hx : Bin x) (i : Nat) (hi : i < x.length) : liveI x (i : Int) = x.getD i 0 ∧ (x.getD i 0 = 0 ∨ x.getD i 0 = 1) := by
  refine ⟨?_, hx _ (getD_mem hi)⟩
  unfold liveI
  rw [if_pos ⟨by omega, by omega⟩, Int.toNat_natCast]

theorem Nob.flip (V : Ways Bt) {w0 w : World} {v : Value} {x l : List Int} {K : Nat → Prop} {b : Option Addr} {d : Nat} (h : Nob Bt w0 w v x) (hl : Lies K w (.slice b l.length d) (l.map (Value.int .i64))) (hK : ∀ k, K k → k < w0.heap.size) (hd : l.length ≤ d) (hll : l.length ≤ 100000) :
    Calls Try.prog 13 #[v, .slice b l.length d] w fun e w' => e = .returned (.bool (okF x.length l)) ∧ Nob Bt w0 w' v (flipI x l).1 := by
  obtain ⟨F, a, e, g⟩ := h
  refine (V.flip a hl (fun k hk hf => by have := hK k hk; have := e k hf; omega) hd hll).mono ?_
  rintro e' w' ⟨rfl, q1, q2⟩
  exact ⟨rfl, F, q1, e, g.trans q2 (fun k hk => .inr (e k hk))⟩

set_option maxRecDepth 100000 in
set_option maxHeartbeats 2000000 in
theorem many1 (V : Ways Bt) (w : World) (n : Int) (a : Option Addr) (l c : Nat) (a' : Option Addr) (l' c' : Nat) (hh : 200 < l) :
    Calls Try.prog 5 #[.int .i64 n, .slice a l c, .slice a' l' c'] w fun e w' => e = .returned (.bool true) ∧ Below w.heap.size w w' := by
  have hi : (200 : Int) < l := by omega
  go_enter Try.func5, Try.ntmps5
  go_wp2_with fail
  refine (first_any V _).mono ?_
  rintro e w1 ⟨rfl, k1⟩
  go_wp2_with fail
  refine (first_any V _).mono ?_
  rintro e w3 ⟨rfl, k3⟩
  go_wp2
  go_ret
  exact ⟨rfl, (k1.then k3).below⟩

set_option maxRecDepth 100000 in
set_option maxHeartbeats 2000000 in
theorem many2 (V : Ways Bt) (w : World) (n : Int) (a : Option Addr) (l c : Nat) (a' : Option Addr) (l' c' : Nat) (hh : l ≤ 200) (hk : 200 < l') :
    Calls Try.prog 5 #[.int .i64 n, .slice a l c, .slice a' l' c'] w fun e w' => e = .returned (.bool true) ∧ Below w.heap.size w w' := by
  have hi : ¬ (200 : Int) < l := by omega
  have hki : (200 : Int) < l' := by omega
  go_enter Try.func5, Try.ntmps5
  go_wp2_with fail
  refine (first_any V _).mono ?_
  rintro e w1 ⟨rfl, k1⟩
  go_wp2_with fail
  refine (first_any V _).mono ?_
  rintro e w3 ⟨rfl, k3⟩
  go_wp2
  go_ret
  exact ⟨rfl, (k1.then k3).below⟩

set_option maxRecDepth 100000 in
set_option maxHeartbeats 2000000 in
theorem none1 (V : Ways Bt) (w : World) (n : Int) (a : Option Addr) (l c : Nat) (a' : Option Addr) (l' c' : Nat) (hh : l ≤ 200) (hk : l' ≤ 200) (hm : mayN n = false) :
    Calls Try.prog 5 #[.int .i64 n, .slice a l c, .slice a' l' c'] w fun e w' => e = .returned (.bool true) ∧ Below w.heap.size w w' := by
  have hi : ¬ (200 : Int) < l := by omega
  have hki : ¬ (200 : Int) < l' := by omega
  have HN := fun W => V.new0 W n hm
  clear hm
  go_enter Try.func5, Try.ntmps5
  go_wp2_with fail
  refine (first_any V _).mono ?_
  rintro e w1 ⟨rfl, k1⟩
  go_wp2_with fail
  refine (HN _).mono ?_
  rintro e w2 ⟨rfl, k2⟩
  go_wp2_with fail
  refine (first_any V _).mono ?_
  rintro e w3 ⟨rfl, k3⟩
  go_wp2
  go_ret
  exact ⟨rfl, ((k1.then k2).then k3).below⟩

set_option maxRecDepth 100000 in
set_option maxHeartbeats 8000000 in
theorem yes (V : Ways Bt) (w : World) (n : Nat) (a : Option Addr) (c : Nat) (a' : Option Addr) (c' : Nat) (la lb : List Int)
    (A : Lies (Old w) w (.slice a la.length c) (la.map (Value.int .i64))) (hca : la.length ≤ c) (B : Lies (Old w) w (.slice a' lb.length c') (lb.map (Value.int .i64))) (hcb : lb.length ≤ c') (hh : la.length ≤ 200) (hk : lb.length ≤ 200) (hm : mayN n = true) :
    Calls Try.prog 5 #[.int .i64 n, .slice a la.length c, .slice a' lb.length c'] w fun e w' => e = .returned (.bool true) ∧ Below w.heap.size w w' := by
  have hn : (1 : Int) ≤ n ∧ (n : Int) ≤ 127 := of_decide_eq_true hm
  have HN : Hid (∀ W, Calls Try.prog 9 #[.int .i64 n] W fun e w' => ∃ p, e = .returned (.pointer (some p)) ∧ Nob Bt W w' (.pointer (some p)) (List.replicate n 0)) := fun W => by
    refine (V.new1 W n hm).mono ?_
    rintro e w' ⟨p, F, rfl, a, b, c⟩
    exact ⟨p, rfl, F, a, b, c⟩
  have hZb : Bin (List.replicate n (0 : Int)) := fun i hi => .inl (List.eq_of_mem_replicate hi)
  obtain ⟨Z, hZ⟩ : ∃ Z, List.replicate n (0 : Int) = Z := ⟨_, rfl⟩
  obtain ⟨X, hX⟩ : ∃ X, (flipI Z la).1 = X := ⟨_, rfl⟩
  obtain ⟨Y, hY⟩ : ∃ Y, (flipI X lb).1 = Y := ⟨_, rfl⟩
  have hZl : Z.length = n := by rw [← hZ]; simp
  have hXl : X.length = n := by rw [← hX, flipI_len, hZl]
  have hYl : Y.length = n := by rw [← hY, flipI_len, hXl]
  rw [hZ] at hZb
  have hXb : Bin X := by rw [← hX]; exact flipI_bin hZb la
  have hYb : Bin Y := by rw [← hY]; exact flipI_bin hXb lb
  have hYX : (flipI Y lb).1 = X := by rw [← hY, flipI_back]
  obtain ⟨oa, hoa⟩ : ∃ o, okF n la = o := ⟨_, rfl⟩
  obtain ⟨ok, hok⟩ : ∃ o, okF n lb = o := ⟨_, rfl⟩
  have hsz : ∀ w0, Chg no w w0 → ∀ k, Old w k → k < w0.heap.size := fun w0 k0 k hk => by
    have h1 : k < w.heap.size := hk
    have := k0.size
    omega
  have HFa : Hid (∀ w0 W p, Chg no w w0 → Nob Bt w0 W (.pointer (some p)) Z → Calls Try.prog 13 #[.pointer (some p), .slice a la.length c] W fun e w' => e = .returned (.bool oa) ∧ Nob Bt w0 w' (.pointer (some p)) X) := fun w0 W p k0 h => by
    have := Nob.flip V h (A.chg (k0.then h.chg) (fun _ _ h => h)) (hsz w0 k0) hca (by omega)
    rw [hZl, hoa, hX] at this
    exact this
  have HFb : Hid (∀ w0 W p q, Chg no w w0 → Two Bt w0 W (.pointer (some p)) (.pointer (some q)) X X → Calls Try.prog 13 #[.pointer (some p), .slice a' lb.length c'] W fun e w' => e = .returned (.bool ok) ∧ Two Bt w0 w' (.pointer (some p)) (.pointer (some q)) Y X) := fun w0 W p q k0 h => by
    have := Two.flip V h (B.chg (k0.then h.chg) (fun _ _ h => h)) (hsz w0 k0) hcb (by omega)
    rw [hXl, hok, hY] at this
    exact this
  have HFc : Hid (∀ w0 W p q, Chg no w w0 → Two Bt w0 W (.pointer (some p)) (.pointer (some q)) Y X → Calls Try.prog 13 #[.pointer (some p), .slice a' lb.length c'] W fun e w' => e = .returned (.bool ok) ∧ Two Bt w0 w' (.pointer (some p)) (.pointer (some q)) X X) := fun w0 W p q k0 h => by
    have := Two.flip V h (B.chg (k0.then h.chg) (fun _ _ h => h)) (hsz w0 k0) hcb (by omega)
    rw [hYl, hok, hYX] at this
    exact this
  have HC : Hid (∀ w0 W p, Nob Bt w0 W (.pointer (some p)) X → Calls Try.prog 11 #[.pointer (some p)] W fun e w' => ∃ q, e = .returned (.pointer (some q)) ∧ Two Bt w0 w' (.pointer (some p)) (.pointer (some q)) X X) := fun w0 W p h => Two.copy V h
  have HB : Hid (∀ w0 W v, Nob Bt w0 W v X → Calls Try.prog 18 #[v] W fun e w' => ∃ a m c, e = .returned (.slice a m c) ∧ NewB W (bytesOf X) (.slice a m c) w') := fun w0 W v h => by
    refine (bytes_of' V h).mono ?_
    rintro e w' ⟨v', rfl, N⟩
    obtain ⟨a, c, rfl⟩ := N.shape
    exact ⟨a, _, c, rfl, N⟩
  have HP : Hid (∀ W v, Lies (fun _ => True) W v ((bytesOf X).map (Value.int .u8)) → Calls Try.prog 20 #[.int .i64 n, v] W fun e w' => ∃ r, e = .returned (.tuple #[.pointer (some r), .int .i64 0]) ∧ Nob Bt W w' (.pointer (some r)) X) := fun W v h => by
    have hpb := parse_back hm hXb hXl
    refine (V.parse W n h (bytesOf_bytes X hXb) (by unfold bytesOf; rw [bytesTo_len, hXl]; omega)).mono ?_
    rintro e w' ⟨pv, F, rfl, q1, _, q3⟩
    rw [hpb] at q1 ⊢
    obtain ⟨r1, r2⟩ := q1 rfl
    obtain ⟨p, rfl⟩ := (V.facts r1).2.2.2.1
    exact ⟨p, rfl, F, r1, r2, q3⟩
  have HBI : Hid (∀ w0 W v, Nob Bt w0 W v X → Calls Try.prog 16 #[v] W fun e w' => ∃ a m c, e = .returned (.slice a m c) ∧ New W X (.slice a m c) w') := fun w0 W v h => by
    obtain ⟨F, q1, q2, q3⟩ := h
    refine (bits_any V W v X q1).mono ?_
    rintro e w' ⟨v', rfl, N⟩
    obtain ⟨a, c, rfl⟩ := N.shape
    exact ⟨a, _, c, rfl, N⟩
  have HLX : Hid (∀ w0 W v (i : Nat), Nob Bt w0 W v X → i < n → Calls Try.prog 22 #[v, .int .i64 (i : Int)] W fun e w' => e = .returned (.int .i64 (X.getD i 0)) ∧ ∃ n, w' = W.drewN n) := fun w0 W v i h hi => by
    have := live_of V (i : Int) h
    rw [(bit_at hXb i (by omega)).1] at this
    exact this
  have HLY : Hid (∀ w0 W v (i : Nat), Nob Bt w0 W v Y → i < n → Calls Try.prog 22 #[v, .int .i64 (i : Int)] W fun e w' => e = .returned (.int .i64 (Y.getD i 0)) ∧ ∃ n, w' = W.drewN n) := fun w0 W v i h hi => by
    have := live_of V (i : Int) h
    rw [(bit_at hYb i (by omega)).1] at this
    exact this
  have HH : Hid (∀ W (i : Nat), Chg no w W → Calls Try.prog 23 #[.slice a' lb.length c', .int .i64 (i : Int)] W fun e w' => e = .returned (.bool (lb.contains (i : Int))) ∧ w' = W) := fun W i k => has_any W _ lb (i : Int) (B.chg k (fun _ _ h => h)) (by omega)
  have HXY : Hid (∀ i, i < n → (Y.getD i 0 = 0 ∨ Y.getD i 0 = 1) ∧ (X.getD i 0 = 0 ∨ X.getD i 0 = 1) ∧ (ok = false → Y.getD i 0 = X.getD i 0) ∧ (ok = true → lb.contains (i : Int) = true → Y.getD i 0 ≠ X.getD i 0) ∧ (ok = true → lb.contains (i : Int) = false → Y.getD i 0 = X.getD i 0)) := fun i hi => by
    refine ⟨(bit_at hYb i (by omega)).2, (bit_at hXb i (by omega)).2, fun h => ?_, fun h hc => ?_, fun h hc => ?_⟩
    · rw [← hY]
      unfold flipI
      rw [if_neg (by rw [hXl, hok, h]; decide)]
    · have := (bit_at hXb i (by omega)).2
      rw [← hY]
      unfold flipI
      rw [if_pos (by rw [hXl, hok, h])]
      simp only
      rw [flipX_get _ _ _ (by omega), if_pos hc]
      omega
    · rw [← hY]
      unfold flipI
      rw [if_pos (by rw [hXl, hok, h])]
      simp only
      rw [flipX_get _ _ _ (by omega), if_neg (by rw [hc]; decide)]
  have HXL : Hid (X.length = n) := hXl
  have hni : (n : Int) ≤ 127 := hn.2
  simp only [hZ] at HN
  clear hZ hX hY hZl hXl hYl hZb hXb hYb hYX hoa hok hsz A B hca hcb hm
  obtain ⟨l1, hl1⟩ : ∃ l, la.length = l := ⟨_, rfl⟩
  obtain ⟨l2, hl2⟩ : ∃ l, lb.length = l := ⟨_, rfl⟩
  simp only [hl1, hl2] at HFa HFb HFc HH hh hk ⊢
  have hi : ¬ (200 : Int) < l1 := by omega
  have hki : ¬ (200 : Int) < l2 := by omega
  clear hl1 hl2 hn
  go_enter Try.func5, Try.ntmps5
  go_wp2_with fail
  refine (first_any V _).mono ?_
  rintro e w1 ⟨rfl, k1⟩
  have HN1 := HN.out w1
  have K1 : Hid (Chg no w w1) := k1
  clear k1 HN
  go_wp2_with fail
  refine HN1.mono ?_
  rintro e w2 ⟨p, rfl, N2⟩
  have HF2 := HFa.out w1 w2 p K1.out N2
  clear HN1 N2 HFa
  go_wp2_with fail
  refine HF2.mono ?_
  rintro e w3 ⟨rfl, N3⟩
  have HC3 := HC.out w1 w3 p N3
  clear HF2 N3 HC
  go_wp2_with fail
  refine HC3.mono ?_
  rintro e w4 ⟨q, rfl, T4⟩
  have HT4 : Hid (Two Bt w1 w4 (.pointer (some p)) (.pointer (some q)) X X) := T4
  have HB4 := HB.out w1 w4 _ T4.left
  clear HC3 T4
  go_wp2_with fail
  refine HB4.mono ?_
  rintro e w5 ⟨x5, m5, c5, rfl, N5⟩
  have HT5 : Hid (Two Bt w1 w5 (.pointer (some p)) (.pointer (some q)) X X) := HT4.out.later V N5.2
  have HP5 := HP.out w5 _ (N5.lies.mono (fun _ _ => trivial))
  clear HB4 N5 HT4 HB HP
  go_wp2_with fail
  refine HP5.mono ?_
  rintro e w6 ⟨r, rfl, N6⟩
  have HT6 : Hid (Two Bt w1 w6 (.pointer (some p)) (.pointer (some q)) X X) := HT5.out.later V N6.chg
  have HB6 := HBI.out w5 w6 _ N6
  clear HP5 N6 HT5
  go_wp2_with fail
  refine HB6.mono ?_
  rintro e w7 ⟨x7, m7, c7, rfl, N7⟩
  have HT7 : Hid (Two Bt w1 w7 (.pointer (some p)) (.pointer (some q)) X X) := HT6.out.later V N7.2
  have HN7 : Hid (New w6 X (.slice x7 m7 c7) w7) := N7
  have HB7 := HBI.out w1 w7 _ HT7.out.left
  clear HB6 N7 HT6
  go_wp2_with fail
  refine HB7.mono ?_
  rintro e w8 ⟨x8, m8, c8, rfl, N8⟩
  have HT8 : Hid (Two Bt w1 w8 (.pointer (some p)) (.pointer (some q)) X X) := HT7.out.later V N8.2
  have HI8 := ints_same w8 _ _ X (HN7.out.chg N8.2).lies N8.lies (by rw [HXL.out]; omega)
  clear HB7 N8 HN7 HT7
  go_wp2_with fail
  refine HI8.mono ?_
  rintro e w9 ⟨rfl, n9, hw9⟩
  have HT9 : Hid (Two Bt w1 w9 (.pointer (some p)) (.pointer (some q)) X X) := by
    show Two _ _ _ _ _ _ _
    rw [hw9]
    exact HT8.out.later V ((Chg.refl no _).drewN n9)
  have HF9 := HFb.out w1 w9 p q K1.out HT9.out
  clear HI8 hw9 HT8 HFb HT9
  go_wp2_with fail
  refine HF9.mono ?_
  rintro e w10 ⟨rfl, T10⟩
  have HT10 : Hid (Two Bt w1 w10 (.pointer (some p)) (.pointer (some q)) Y X) := T10
  clear HF9 T10
  go_wp2_with fail
  rename World => w11
  go_loopw [12] (fun iv wr => ∃ i : Nat, i ≤ n ∧ iv = .int .i64 (i : Int) ∧ Two Bt w1 wr (.pointer (some p)) (.pointer (some q)) Y X) (fun iv _ => n - (intOf iv).toNat)
  case atStart => exact ⟨0, by omega, rfl, HT10.out⟩
  case round =>
    clear HT10
    obtain ⟨i, hi', rfl, hT⟩ := hrel
    have HT : Hid (Two Bt w1 wr (.pointer (some p)) (.pointer (some q)) Y X) := hT
    clear hT
    by_cases hin : i < n
    · have hii : (i : Int) < n := by omega
      obtain ⟨b1, b2, b3, b4, b5⟩ := HXY.out i hin
      have L1 := HLY.out w1 wr _ i HT.out.left hin
      obtain ⟨y, hy⟩ : ∃ y, Y.getD i 0 = y := ⟨_, rfl⟩
      obtain ⟨x, hx⟩ : ∃ x, X.getD i 0 = x := ⟨_, rfl⟩
      rw [hy] at L1
      rw [hy, hx] at b3 b4 b5
      rw [hy] at b1
      have y0 : ¬ y < 0 := by omega
      have y1 : ¬ 1 < y := by omega
      cases ok
      · have hxy := b3 rfl
        subst hxy
        clear b1 b2 b3 b4 b5
        go_wp2_with fail
        refine L1.mono ?_
        rintro e w12 ⟨rfl, n12, hw12⟩
        have HT12 : Hid (Two Bt w1 w12 (.pointer (some p)) (.pointer (some q)) Y X) := by
          show Two _ _ _ _ _ _ _
          rw [hw12]
          exact HT.out.later V ((Chg.refl no _).drewN n12)
        have L2 := HLX.out w1 w12 _ i HT12.out.swap.left hin
        rw [hx] at L2
        clear L1 hw12 HT
        go_wp2_with fail
        refine L2.mono ?_
        rintro e w13 ⟨rfl, n13, hw13⟩
        have HT13 : Hid (Two Bt w1 w13 (.pointer (some p)) (.pointer (some q)) Y X) := by
          show Two _ _ _ _ _ _ _
          rw [hw13]
          exact HT12.out.later V ((Chg.refl no _).drewN n13)
        have L3 := HLY.out w1 w13 _ i HT13.out.left hin
        rw [hy] at L3
        clear L2 hw13 HT12
        go_wp2_with fail
        refine L3.mono ?_
        rintro e w15 ⟨rfl, n15, hw15⟩
        have HT15 : Hid (Two Bt w1 w15 (.pointer (some p)) (.pointer (some q)) Y X) := by
          show Two _ _ _ _ _ _ _
          rw [hw15]
          exact HT13.out.later V ((Chg.refl no _).drewN n15)
        have L4 := HLY.out w1 w15 _ i HT15.out.left hin
        rw [hy] at L4
        clear L3 hw15 HT13
        go_wp2_with fail
        refine L4.mono ?_
        rintro e w16 ⟨rfl, n16, hw16⟩
        have HT16 : Hid (Two Bt w1 w16 (.pointer (some p)) (.pointer (some q)) Y X) := by
          show Two _ _ _ _ _ _ _
          rw [hw16]
          exact HT15.out.later V ((Chg.refl no _).drewN n16)
        clear L4 hw16 HT15
        go_wp2
        go_roundw
        case rel => exact ⟨i + 1, by omega, by go_num, HT16.out⟩
        case measure => simp [intOf]; omega
      · cases hc : lb.contains (i : Int)
        · have hxy := b5 rfl hc
          subst hxy
          clear b1 b2 b3 b4 b5
          go_wp2_with fail
          refine L1.mono ?_
          rintro e w12 ⟨rfl, n12, hw12⟩
          have HT12 : Hid (Two Bt w1 w12 (.pointer (some p)) (.pointer (some q)) Y X) := by
            show Two _ _ _ _ _ _ _
            rw [hw12]
            exact HT.out.later V ((Chg.refl no _).drewN n12)
          have L2 := HLX.out w1 w12 _ i HT12.out.swap.left hin
          rw [hx] at L2
          clear L1 hw12 HT
          go_wp2_with fail
          refine L2.mono ?_
          rintro e w13 ⟨rfl, n13, hw13⟩
          have HT13 : Hid (Two Bt w1 w13 (.pointer (some p)) (.pointer (some q)) Y X) := by
            show Two _ _ _ _ _ _ _
            rw [hw13]
            exact HT12.out.later V ((Chg.refl no _).drewN n13)
          have LH := HH.out w13 i (K1.out.then HT13.out.chg)
          rw [hc] at LH
          clear L2 hw13 HT12
          go_wp2_with fail
          refine LH.mono ?_
          rintro e w14 ⟨rfl, hw14⟩
          subst hw14
          have L3 := HLY.out w1 w14 _ i HT13.out.left hin
          rw [hy] at L3
          clear LH
          go_wp2_with fail
          refine L3.mono ?_
          rintro e w15 ⟨rfl, n15, hw15⟩
          have HT15 : Hid (Two Bt w1 w15 (.pointer (some p)) (.pointer (some q)) Y X) := by
            show Two _ _ _ _ _ _ _
            rw [hw15]
            exact HT13.out.later V ((Chg.refl no _).drewN n15)
          have L4 := HLY.out w1 w15 _ i HT15.out.left hin
          rw [hy] at L4
          clear L3 hw15 HT13
          go_wp2_with fail
          refine L4.mono ?_
          rintro e w16 ⟨rfl, n16, hw16⟩
          have HT16 : Hid (Two Bt w1 w16 (.pointer (some p)) (.pointer (some q)) Y X) := by
            show Two _ _ _ _ _ _ _
            rw [hw16]
            exact HT15.out.later V ((Chg.refl no _).drewN n16)
          clear L4 hw16 HT15
          go_wp2
          go_roundw
          case rel => exact ⟨i + 1, by omega, by go_num, HT16.out⟩
          case measure => simp [intOf]; omega
        · have hxy : (y != x) = true := by
            have := b4 rfl hc
            simpa using this
          have hxy2 : ¬ y = x := b4 rfl hc
          clear b1 b2 b3 b4 b5
          go_wp2_with fail
          refine L1.mono ?_
          rintro e w12 ⟨rfl, n12, hw12⟩
          have HT12 : Hid (Two Bt w1 w12 (.pointer (some p)) (.pointer (some q)) Y X) := by
            show Two _ _ _ _ _ _ _
            rw [hw12]
            exact HT.out.later V ((Chg.refl no _).drewN n12)
          have L2 := HLX.out w1 w12 _ i HT12.out.swap.left hin
          rw [hx] at L2
          clear L1 hw12 HT
          go_wp2_with fail
          refine L2.mono ?_
          rintro e w13 ⟨rfl, n13, hw13⟩
          have HT13 : Hid (Two Bt w1 w13 (.pointer (some p)) (.pointer (some q)) Y X) := by
            show Two _ _ _ _ _ _ _
            rw [hw13]
            exact HT12.out.later V ((Chg.refl no _).drewN n13)
          have LH := HH.out w13 i (K1.out.then HT13.out.chg)
          rw [hc] at LH
          clear L2 hw13 HT12
          go_wp2_with fail
          refine LH.mono ?_
          rintro e w14 ⟨rfl, hw14⟩
          subst hw14
          have L3 := HLY.out w1 w14 _ i HT13.out.left hin
          rw [hy] at L3
          clear LH
          go_wp2_with fail
          refine L3.mono ?_
          rintro e w15 ⟨rfl, n15, hw15⟩
          have HT15 : Hid (Two Bt w1 w15 (.pointer (some p)) (.pointer (some q)) Y X) := by
            show Two _ _ _ _ _ _ _
            rw [hw15]
            exact HT13.out.later V ((Chg.refl no _).drewN n15)
          have L4 := HLY.out w1 w15 _ i HT15.out.left hin
          rw [hy] at L4
          clear L3 hw15 HT13
          go_wp2_with fail
          refine L4.mono ?_
          rintro e w16 ⟨rfl, n16, hw16⟩
          have HT16 : Hid (Two Bt w1 w16 (.pointer (some p)) (.pointer (some q)) Y X) := by
            show Two _ _ _ _ _ _ _
            rw [hw16]
            exact HT15.out.later V ((Chg.refl no _).drewN n16)
          clear L4 hw16 HT15
          go_wp2
          go_roundw
          case rel => exact ⟨i + 1, by omega, by go_num, HT16.out⟩
          case measure => simp [intOf]; omega
    · obtain rfl : i = n := by omega
      have hii : ¬ ((i : Int) < i) := by omega
      go_wp2_with fail
      refine (first_any V _).mono ?_
      rintro e w12 ⟨rfl, k12⟩
      have HT12 : Hid (Two Bt w1 w12 (.pointer (some p)) (.pointer (some q)) Y X) := HT.out.later V k12
      have HF12 := HFc.out w1 w12 p q K1.out HT12.out
      clear k12 HT HT12 HFc
      go_wp2_with fail
      refine HF12.mono ?_
      rintro e w13 ⟨rfl, T13⟩
      have HT13 : Hid (Two Bt w1 w13 (.pointer (some p)) (.pointer (some q)) X X) := T13
      have HB13 := HBI.out w1 w13 _ T13.left
      have hoo : (ok == ok) = true := by simp
      clear HF12 T13
      go_wp2_with fail
      refine HB13.mono ?_
      rintro e w14 ⟨x14, m14, c14, rfl, N14⟩
      have HT14 : Hid (Two Bt w1 w14 (.pointer (some p)) (.pointer (some q)) X X) := HT13.out.later V N14.2
      have HN14 : Hid (New w13 X (.slice x14 m14 c14) w14) := N14
      have HB14 := HBI.out w1 w14 _ HT14.out.swap.left
      clear HB13 N14 HT13
      go_wp2_with fail
      refine HB14.mono ?_
      rintro e w15 ⟨x15, m15, c15, rfl, N15⟩
      have HT15 : Hid (Two Bt w1 w15 (.pointer (some p)) (.pointer (some q)) X X) := HT14.out.later V N15.2
      have HI15 := ints_same w15 _ _ X (HN14.out.chg N15.2).lies N15.lies (by rw [HXL.out]; omega)
      clear HB14 N15 HN14 HT14
      go_wp2_with fail
      refine HI15.mono ?_
      rintro e w16 ⟨rfl, n16, hw16⟩
      have K16 : Hid (Chg no w w16) := by
        show Chg _ _ _
        rw [hw16]
        exact (K1.out.then HT15.out.chg).drewN n16
      clear hw16
      go_wp2
      go_ret
      exact ⟨rfl, K16.out.below⟩

end Go.Proofs.Ytallblnkgmioeaa.twice
