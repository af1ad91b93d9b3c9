/- The law EvictDeep, walked. -/
import Derived.Test.YtkaohjlnlgennaaPfv
import Derived.Test.YtkaohjlnlgennaaRmy
import Derived.Test.YtkaohjlnlgennaaRot
import Derived.Test.YtkaohjlnlgennaaQad
import Derived.Below
namespace Go.Proofs.Ytkaohjlnlgennaa.deep
open Go.ChangeShapes Go.WideShapes Go.ChangeAt Go.RowKit Go.Proofs.Ytkaohjlnlgennaa.hp Go.Proofs.Ytkaohjlnlgennaa.tm Go.Proofs.Ytkaohjlnlgennaa.ev Go.Proofs.Ytkaohjlnlgennaa.st
set_option linter.unusedVariables false
set_option linter.unusedSimpArgs false

set_option maxRecDepth 100000 in
set_option maxHeartbeats 2000000 in
theorem many1 (w : World) (h z turn : Int) (a2 : Option Addr) (l2 c2 : Nat) (a3 : Option Addr) (l3 c3 : Nat) (hh : 40 < l2) :
    Calls Try.prog 5 #[.int .i64 h, .int .i64 z, .slice a2 l2 c2, .slice a3 l3 c3, .int .i64 turn] w fun e w' => e = .returned (.bool true) ∧ Below w.heap.size w w' := by
  have hi : (40 : Int) < l2 := by omega
  go_enter Try.func5, Try.ntmps5
  go_wp2_with fail
  refine (first_any _).mono ?_
  rintro e w1 ⟨rfl, k1⟩
  go_wp2_with fail
  refine (first_any _).mono ?_
  rintro e w3 ⟨rfl, k3⟩
  go_wp2
  go_ret
  exact ⟨rfl, (k1.then k3).below⟩

set_option maxRecDepth 100000 in
set_option maxHeartbeats 2000000 in
theorem many2 (w : World) (h z turn : Int) (a2 : Option Addr) (l2 c2 : Nat) (a3 : Option Addr) (l3 c3 : Nat) (hh : l2 ≤ 40) (hk : 40 < l3) :
    Calls Try.prog 5 #[.int .i64 h, .int .i64 z, .slice a2 l2 c2, .slice a3 l3 c3, .int .i64 turn] w fun e w' => e = .returned (.bool true) ∧ Below w.heap.size w w' := by
  have hi : ¬ (40 : Int) < l2 := by omega
  have hki : (40 : Int) < l3 := by omega
  go_enter Try.func5, Try.ntmps5
  go_wp2_with fail
  refine (first_any _).mono ?_
  rintro e w1 ⟨rfl, k1⟩
  go_wp2_with fail
  refine (first_any _).mono ?_
  rintro e w3 ⟨rfl, k3⟩
  go_wp2
  go_ret
  exact ⟨rfl, (k1.then k3).below⟩

set_option maxRecDepth 100000 in
set_option maxHeartbeats 2000000 in
theorem many3 (w : World) (h z turn : Int) (a2 : Option Addr) (l2 c2 : Nat) (a3 : Option Addr) (l3 c3 : Nat) (hh : l2 ≤ 40) (hk : l3 ≤ 40) (hz : turn < 0) :
    Calls Try.prog 5 #[.int .i64 h, .int .i64 z, .slice a2 l2 c2, .slice a3 l3 c3, .int .i64 turn] w fun e w' => e = .returned (.bool true) ∧ Below w.heap.size w w' := by
  have hi : ¬ (40 : Int) < l2 := by omega
  have hki : ¬ (40 : Int) < l3 := by omega
  go_enter Try.func5, Try.ntmps5
  go_wp2_with fail
  refine (first_any _).mono ?_
  rintro e w1 ⟨rfl, k1⟩
  go_wp2_with fail
  refine (first_any _).mono ?_
  rintro e w3 ⟨rfl, k3⟩
  go_wp2
  go_ret
  exact ⟨rfl, (k1.then k3).below⟩

set_option maxRecDepth 100000 in
set_option maxHeartbeats 2000000 in
theorem not (w : World) (h z turn : Int) (a2 : Option Addr) (c2 : Nat) (a3 : Option Addr) (c3 : Nat) (ls : List Int) (its : List (Int × Int))
    (A2 : Lies (Old w) w (.slice a2 ls.length c2) (ls.map (Value.int .i64))) (A3 : Lie (Old w) w (.slice a3 its.length c3) its.length (its.flatMap f2)) (hh : ls.length ≤ 40) (hk : its.length ≤ 40) (hz : ¬ turn < 0) (hm : mayB h z ls its = false) :
    Calls Try.prog 5 #[.int .i64 h, .int .i64 z, .slice a2 ls.length c2, .slice a3 its.length c3, .int .i64 turn] w fun e w' => e = .returned (.bool true) ∧ Below w.heap.size w w' := by
  have hi : ¬ (40 : Int) < ls.length := by omega
  have hki : ¬ (40 : Int) < its.length := by omega
  go_enter Try.func5, Try.ntmps5
  go_wp2_with fail
  refine (first_any _).mono ?_
  rintro e w1 ⟨rfl, k1⟩
  have HI := items_any w1 _ its (Lie.later A3 k1) (by omega)
  go_wp2_with fail
  refine HI.mono ?_
  rintro e w2 ⟨v2, rfl, N2⟩
  have k2 := k1.then N2.2
  have HM := rmayPlan_any w2 h z _ v2 ls its (Lies.later A2 k2) N2.lie (by omega) (by omega)
  rw [hm] at HM
  obtain ⟨x2, y2, rfl⟩ := N2.shape
  clear HI
  go_wp2_with fail
  refine HM.mono ?_
  rintro e w3 ⟨rfl, k3⟩
  have k4 := k2.then k3
  clear HM k3 N2
  go_wp2_with fail
  refine (first_any _).mono ?_
  rintro e w4 ⟨rfl, k5⟩
  go_wp2
  go_ret
  exact ⟨rfl, (k4.then k5).below⟩

set_option maxRecDepth 100000 in
set_option maxHeartbeats 8000000 in
theorem yes (w : World) (h z turn : Int) (a2 : Option Addr) (c2 : Nat) (a3 : Option Addr) (c3 : Nat) (ls : List Int) (its : List (Int × Int))
    (A2 : Lies (Old w) w (.slice a2 ls.length c2) (ls.map (Value.int .i64))) (A3 : Lie (Old w) w (.slice a3 its.length c3) its.length (its.flatMap f2)) (hh : ls.length ≤ 40) (hk : its.length ≤ 40) (hz : ¬ turn < 0) (hm : mayB h z ls its = true) :
    Calls Try.prog 5 #[.int .i64 h, .int .i64 z, .slice a2 ls.length c2, .slice a3 its.length c3, .int .i64 turn] w fun e w' => e = .returned (.bool true) ∧ Below w.heap.size w w' := by
  obtain ⟨i0, hi0, hz0, hz1, hz2⟩ := info_parts info35
  have HA2 : Hid (∀ W, Chg no w W → Lies (Old W) W (.slice a2 ls.length c2) (ls.map (Value.int .i64))) := fun W k => Lies.later A2 k
  have HA3 : Hid (∀ W, Chg no w W → Lie (Old W) W (.slice a3 its.length c3) its.length (its.flatMap f2)) := fun W k => Lie.later A3 k
  have HIT : Hid (∀ W, Chg no w W → ∀ k, k < its.length → ∃ y, a3 = some y ∧ W.cell? (y.add (k * 2)) = some (.int .i64 (its.getD k (0, 0)).1) ∧ W.cell? ⟨(y.add (k * 2)).block, (y.add (k * 2)).off + 1, none⟩ = some (.int .i64 (its.getD k (0, 0)).2)) := by
    intro W kk k hk
    obtain ⟨y, e1, e2, e3, _⟩ := (A3.same kk).at2 k hk
    exact ⟨y, e1, e2, e3⟩
  have HI : Hid (∀ W, Chg no w W → Calls Try.prog 12 #[.slice a3 its.length c3] W fun e w' => ∃ a c, e = .returned (.slice a its.length c) ∧ Lie (fun _ => True) w' (.slice a its.length c) its.length (its.flatMap f2) ∧ Chg no W w') := fun W k => by
    refine (items_any W _ its (HA3.out W k) (by omega)).mono ?_
    rintro e w' ⟨v', rfl, N⟩
    obtain ⟨a, c, rfl⟩ := N.shape
    exact ⟨a, c, rfl, Lie.mono N.lie (fun _ _ => trivial), N.2⟩
  have HM : Hid (∀ W v', Chg no w W → Lie (fun _ => True) W v' its.length (its.flatMap f2) → Calls Try.prog 18 #[.int .i64 h, .int .i64 z, .slice a2 ls.length c2, v'] W fun e w' => e = .returned (.bool true) ∧ Chg no W w') := fun W v' k hv => by
    have := rmayPlan_any W h z _ v' ls its (HA2.out W k) hv (by omega) (by omega)
    rw [hm] at this
    exact this
  obtain ⟨left, hleft⟩ : ∃ x, (planA h z ls its).2 = x := ⟨_, rfl⟩
  obtain ⟨fls, hfls⟩ : ∃ x, (planA h z ls its).1 = x := ⟨_, rfl⟩
  have hlen := planA_len h z ls its
  have hlq := planA_left h z ls its
  rw [hfls] at hlen
  rw [hleft] at hlq
  have HP : Hid (∀ W, Chg no w W → Calls Try.prog 10 #[.int .i64 h, .int .i64 z, .slice a2 ls.length c2, .slice a3 its.length c3] W fun e w' => ∃ fa fc a c xs, e = .returned (.tuple #[.slice fa xs.length fc, .slice a left.length c]) ∧ Fls w' (.slice fa xs.length fc) xs ∧ Lies (Old w') w' (.slice a left.length c) (left.map (Value.int .i64)) ∧
      (xs.length ≤ 127 ∧ abs xs = fls ∧ (∀ k, k < xs.length → (xs.getD k dFV).b ≤ 127 ∧ (xs.getD k dFV).d.length ≤ 4) ∧
        (∀ i, i < its.length → ∀ k, k < xs.length → (xs.getD k dFV).d.contains (its.getD i (0, 0)).1 = true → ∀ j, j < xs.length → lvlI (xs.getD k dFV).b < lvlI (xs.getD j dFV).b → onI h (xs.getD j dFV).b (its.getD i (0, 0)).2 = true → ((xs.getD j dFV).d.length : Int) = z)) ∧ Chg no W w') := fun W k => by
    refine (plan_any W h z _ _ ls its (HA2.out W k) (HA3.out W k) (by omega) (by omega)).mono ?_
    rintro e w' ⟨fv, lv, xs, rfl, b1, b2, b3, b4⟩
    rw [hleft] at b3
    obtain ⟨a, c, rfl, _⟩ := b3.slice
    obtain ⟨fa, fc, rfl⟩ := b1.slice
    rw [List.length_map] at b3 ⊢
    exact ⟨fa, fc, a, c, xs, rfl, b1, b3, ⟨(fv_len b2).1, by rw [b2, hfls], fun k hk => ⟨(b_at hm b2 (xs.getD k dFV) (getD_mem hk)).2.1, (fv_len b2).2 (xs.getD k dFV) (getD_mem hk)⟩, fun i hi k hk hc j hj hl ho => deep_at hm b2 i hi _ _ (getD_mem hk) (getD_mem hj) hc hl ho⟩, b4⟩
  have HP2 : Hid (∀ r W a n c, Chg no w W → Lie (fun _ => True) W (.slice a n c) n ((rot its r).flatMap f2) → n = its.length → Calls Try.prog 10 #[.int .i64 h, .int .i64 z, .slice a2 ls.length c2, .slice a n c] W fun e w' => ∃ fa m fc a c q xs, e = .returned (.tuple #[.slice fa m fc, .slice a q c]) ∧ xs.length = m ∧ Fls w' (.slice fa m fc) xs ∧ Lies (Old w') w' (.slice a q c) (left.map (Value.int .i64)) ∧ abs xs = fls ∧ Chg no W w') := fun r W a n c k hv hn => by
    subst hn
    have hv' : Lie (fun _ => True) W (.slice a its.length c) (rot its r).length ((rot its r).flatMap f2) := by rw [rot_len]; exact hv
    refine (plan_any W h z _ _ ls (rot its r) (HA2.out W k) hv' (by omega) (by rw [rot_len]; omega)).mono ?_
    rintro e w' ⟨fv, lv, xs, rfl, b1, b2, b3, b4⟩
    rw [planA_rot hm] at b2 b3
    rw [hleft] at b3
    rw [hfls] at b2
    obtain ⟨a, c, rfl, _⟩ := b3.slice
    obtain ⟨fa, fc, rfl⟩ := b1.slice
    exact ⟨fa, _, fc, a, c, _, xs, rfl, rfl, b1, b3, b2, b4⟩
  clear hm hleft hfls A2 A3 HA2 HA3
  obtain ⟨n, hn⟩ : ∃ n, its.length = n := ⟨_, rfl⟩
  obtain ⟨l2, hl2⟩ : ∃ n, ls.length = n := ⟨_, rfl⟩
  have HN : Hid (its.length = n) := hn
  simp only [hn, hl2] at hk hh HIT HI HM HP HP2 hlq ⊢
  clear hn hl2
  have hi : ¬ (40 : Int) < l2 := by omega
  have hki : ¬ (40 : Int) < n := by omega
  go_enter Try.func5, Try.ntmps5
  go_wp2_with fail
  refine (first_any _).mono ?_
  rintro e w1 ⟨rfl, k1⟩
  have HI1 := HI.out w1 k1
  go_wp2_with fail
  refine HI1.mono ?_
  rintro e w2 ⟨x2, y2, rfl, N2, kk⟩
  have k2 := k1.then kk
  have HM2 := HM.out w2 _ k2 N2
  clear HI1 N2 kk
  go_wp2_with fail
  refine HM2.mono ?_
  rintro e w3 ⟨rfl, k3⟩
  have k4 := k2.then k3
  have HP3 := HP.out w3 k4
  clear HM2 k3 k2 k1
  go_wp2_with fail
  refine HP3.mono ?_
  rintro e w4 ⟨fa, fc, al, cl, xs, rfl, F4, L4, ⟨hm1, hab, hb, hdp⟩, k5⟩
  have K4 : Hid (Chg no w w4) := k4.then k5
  have HF : Hid (Fls w4 (.slice fa xs.length fc) xs) := F4
  have HL : Hid (Lies (Old w4) w4 (.slice al left.length cl) (left.map (Value.int .i64))) := L4
  have HAB : Hid (abs xs = fls) := hab
  have HB : Hid (∀ k, k < xs.length → (xs.getD k dFV).b ≤ 127 ∧ (xs.getD k dFV).d.length ≤ 4) := hb
  have HDP : Hid (∀ i, i < n → ∀ k, k < xs.length → (xs.getD k dFV).d.contains (its.getD i (0, 0)).1 = true → ∀ j, j < xs.length → lvlI (xs.getD k dFV).b < lvlI (xs.getD j dFV).b → onI h (xs.getD j dFV).b (its.getD i (0, 0)).2 = true → ((xs.getD j dFV).d.length : Int) = z) := hdp
  clear HP3 k4 k5 F4 L4 hb hdp hab HI HM HP
  obtain ⟨m, hm⟩ : ∃ m, xs.length = m := ⟨_, rfl⟩
  obtain ⟨q, hq⟩ : ∃ q, left.length = q := ⟨_, rfl⟩
  have HXM : Hid (xs.length = m) := hm
  have HQL : Hid (left.length = q) := hq
  simp only [hm, hq] at hm1 HF HB HDP HL hlq ⊢
  have hmi : (m : Int) ≤ 127 := by omega
  clear hm hq
  go_wp2_with fail
  go_loopw [13, 14] (fun v i wr => ∃ k : Nat, k ≤ n ∧ i = .int .i64 (k : Int) ∧ NewR 35 2 f2 w4 ((rot its (turn.toNat % n)).take k) v wr) (fun _ i _ => n - (intOf i).toNat)
  case atStart => exact ⟨0, by omega, rfl, NewR.nil (Chg.refl no w4)⟩
  case round =>
    obtain ⟨k, hk', rfl, hN⟩ := hrel
    by_cases hkn : k < n
    · have hkni : (k : Int) < n := by omega
      obtain ⟨R, hR⟩ : ∃ R, turn.toNat % n = R := ⟨_, rfl⟩
      have hRn : R < n := by rw [← hR]; exact Nat.mod_lt _ (by omega)
      have hrem := tmod_turn (t := turn) (by omega) n
      rw [hR] at hrem hN ⊢
      have hrem2 := tmod_nat k R n
      obtain ⟨J, hJ⟩ : ∃ J, (k + R) % n = J := ⟨_, rfl⟩
      have hJn : J < n := by rw [← hJ]; exact Nat.mod_lt _ (by omega)
      have hJi : (J : Int) < n := by omega
      rw [hJ] at hrem2
      obtain ⟨y, rfl, e0, e1⟩ := HIT.out wr (K4.out.then hN.2) J hJn
      have hsn := take_next (rot its R) (0, 0) k (by rw [rot_len, HN.out]; exact hkn)
      rw [rot_get its (0, 0) R k n HN.out hRn hkn, hJ] at hsn
      obtain ⟨⟨d, l⟩, hdl⟩ : ∃ x, its.getD J (0, 0) = x := ⟨_, rfl⟩
      rw [hdl] at e0 e1 hsn
      simp only at e0 e1
      have HE : Hid ((rot its R).take (k + 1) = (rot its R).take k ++ [(d, l)]) := hsn
      have hml : ((rot its R).take k).length ≤ k := List.length_take_le _ _
      obtain ⟨a, c, mm, XS, rfl, hmm, ho, ha⟩ := ready hN
      rw [← hmm] at hml
      have HO : Hid (∀ W, Chg no wr W → W.ownsRow 0 35 2 (.slice a mm c) mm XS) := ho
      have HA : Hid (∀ (x : Int × Int) (W : World) (v' : Value) (w3 : World), Chg no wr W → w3.ownsRow 0 35 2 v' (mm + 1) (XS ++ f2 x) → W.grownBy w3 (Value.slice a mm c).ownBlock → (∀ b, v'.ownBlock = some b → (Value.slice a mm c).ownBlock = some b ∨ W.heap.size ≤ b) → NewR 35 2 f2 w4 ((rot its R).take k ++ [x]) v' w3) := ha
      have hn0 : ((n : Int) == 0) = false := by simp; omega
      have hn1 : ¬ (n : Int) = 0 := by omega
      clear hmm ho ha hN hsn hdl hJ hR
      go_wp2_with (at_builtin; refine wpList_append_at rfl _ _ 23 rfl 35 i0 (nv 0 0) 2 16 Try.underlying23 hi0 hz0 hz1 hz2 rfl (by decide) (.slice a mm c) mm XS rfl (HO.out _ ((Chg.refl no wr).alloc _)) ⟨wr.heap.size, 0, none⟩ 1 1 [.int .i64 d, .int .i64 l] rfl rfl (news_at (w := wr) (xs := [.int .i64 d, .int .i64 l]) (t := 35)) (one_i2 _ _) (by unfold maxLen; omega) (by omega) ?_; intro v5 w5 o5 g5 p5)
      have N5 := HA.out (d, l) _ v5 w5 ((Chg.refl no wr).alloc _) o5 g5 p5
      obtain ⟨a5, c5, rfl⟩ := owns_shape o5
      have HN5 : Hid (NewR 35 2 f2 w4 ((rot its R).take k ++ [(d, l)]) (.slice a5 (mm + 1) c5) w5) := N5
      clear o5 g5 p5 N5
      go_wp2
      go_roundw
      case rel => exact ⟨k + 1, by omega, by go_num, by rw [HE.out]; exact HN5.out⟩
      case measure => simp [intOf]; omega
    · obtain rfl : k = n := by omega
      have hkni : ¬ ((k : Int) < k) := by omega
      obtain ⟨r, hr⟩ : ∃ r, turn.toNat % k = r := ⟨_, rfl⟩
      rw [hr] at hN
      have e : (rot its r).take k = rot its r := by rw [← HN.out, ← rot_len its r, List.take_length]
      rw [e] at hN
      have hC := hN.2
      have hl' := hN.lie
      obtain ⟨a, c, rfl⟩ := hN.shape
      rw [rot_len, HN.out] at hl' ⊢
      have HPr := HP2.out r wr a k c (K4.out.then hC) (Lie.mono hl' (fun _ _ => trivial)) rfl
      have HC : Hid (Chg no w4 wr) := hC
      clear hN hl' e hr hC HP2
      go_wp2_with fail
      refine HPr.mono ?_
      rintro e w5 ⟨ga, m', gc, bl, cl', q', ys, rfl, hy, G5, M5, hab', k5⟩
      have C5 : Hid (Chg no w4 w5) := HC.out.then k5
      have HM5 : Hid (Lies (Old w5) w5 (.slice bl q' cl') (left.map (Value.int .i64))) := M5
      have HG5 : Hid (Fls w5 (.slice ga m' gc) ys) := G5
      have HYA : Hid (ys.length ≤ 127 ∧ abs ys = fls) := ⟨by rw [← abs_len, hab']; exact hlen, hab'⟩
      have H14 := fills_any w5 _ xs (HF.out.later C5.out) (by rw [HXM.out]; omega)
      clear HPr HC M5 G5 hab' k5 hy
      go_wp2_with fail
      refine H14.mono ?_
      rintro e w6 ⟨v6, rfl, N6⟩
      have F6 : Fls w6 v6 xs := Fls.of_new N6 (HF.out.later C5.out)
      have C6 : Hid (Chg no w5 w6) := N6.2
      obtain ⟨xa6, m6, xc6, rfl⟩ : ∃ a m c, v6 = .slice a m c := by
        obtain ⟨a, c, e⟩ := F6.slice
        exact ⟨_, _, _, e⟩
      have HF6 : Hid (Fls w6 (.slice xa6 m6 xc6) xs) := F6
      have H14' := fills_any w6 _ ys (HG5.out.later C6.out) (by have := HYA.out.1; omega)
      clear H14 N6 F6
      go_wp2_with fail
      refine H14'.mono ?_
      rintro e w7 ⟨v7, rfl, N7⟩
      have F7 : Fls w7 v7 ys := Fls.of_new N7 (HG5.out.later C6.out)
      have C7 : Hid (Chg no w6 w7) := N7.2
      obtain ⟨xa7, m7, xc7, rfl⟩ : ∃ a m c, v7 = .slice a m c := by
        obtain ⟨a, c, e⟩ := F7.slice
        exact ⟨_, _, _, e⟩
      have HSF := sameFills_same w7 _ _ xs ys (HF6.out.later C7.out) F7 (by rw [HXM.out]; omega) (by rw [HAB.out, HYA.out.2]) (fun x hx => by
        obtain ⟨i, hi, e⟩ := List.mem_iff_getElem.1 hx
        have := (HB.out i (by rw [← HXM.out]; exact hi)).2
        rw [List.getD_eq_getElem?_getD, List.getElem?_eq_getElem hi] at this
        simp only [Option.getD_some] at this
        rw [e] at this
        omega)
      clear H14' N7 F7 HG5 HF6
      go_wp2_with fail
      refine HSF.mono ?_
      rintro e w8 ⟨rfl, k8⟩
      have C8 : Hid (Chg no w5 w8) := (C6.out.then C7.out).then k8
      have HIS := ints_same w8 _ _ left (Lies.later HL.out (C5.out.then C8.out)) (Lies.later HM5.out C8.out) (by rw [HQL.out]; omega)
      clear HSF k8 C6 C7
      go_wp2_with fail
      refine HIS.mono ?_
      rintro e w9 ⟨rfl, n9, hw9⟩
      have C9 : Hid (Chg no w4 w9) := by
        show Chg _ _ _
        rw [hw9]
        exact (C5.out.then C8.out).drewN n9
      clear HIS hw9 C8 C5 HM5 HYA
      go_wp2_with fail
      rename World => w10
      go_loopw [17] (fun iv wr => ∃ i : Nat, i ≤ k ∧ iv = .int .i64 (i : Int) ∧ Chg no w4 wr) (fun iv _ => k - (intOf iv).toNat)
      case atStart => exact ⟨0, by omega, rfl, C9.out⟩
      case round =>
        obtain ⟨i, hi', rfl, hC⟩ := hrel
        have HC : Hid (Chg no w4 wr) := hC
        clear hC
        by_cases hin : i < k
        · have hii : (i : Int) < k := by omega
          obtain ⟨X, hX⟩ : ∃ X, (its.getD i (0, 0)).1 = X := ⟨_, rfl⟩
          obtain ⟨L, hL⟩ : ∃ L, (its.getD i (0, 0)).2 = L := ⟨_, rfl⟩
          have HDP1 := HDP.out i hin
          have HIX : Hid (∀ W, Chg no w W → ∃ y, a3 = some y ∧ W.cell? (y.add (i * 2)) = some (.int .i64 X) ∧ W.cell? ⟨(y.add (i * 2)).block, (y.add (i * 2)).off + 1, none⟩ = some (.int .i64 L)) := fun W k => by
            have := HIT.out W k i hin
            rw [hX, hL] at this
            exact this
          simp only [hX, hL] at HDP1
          have HDP2 : Hid (∀ k, k < m → (xs.getD k dFV).d.contains X = true → ∀ j, j < m → lvlI (xs.getD k dFV).b < lvlI (xs.getD j dFV).b → onI h (xs.getD j dFV).b L = true → ((xs.getD j dFV).d.length : Int) = z) := HDP1
          clear HDP1 hX hL
          go_wp2_with fail
          rename World => w11
          go_loopw [18] (fun uv wq => ∃ u : Nat, u ≤ m ∧ uv = .int .i64 (u : Int) ∧ Chg no w4 wq) (fun uv _ => m - (intOf uv).toNat)
          case atStart => exact ⟨0, by omega, rfl, HC.out⟩
          case round =>
            obtain ⟨u, hu', rfl, hC2⟩ := hrel
            have HC2 : Hid (Chg no w4 wr) := hC2
            clear hC2
            obtain ⟨y, rfl, e0, e1⟩ := HIX.out wr (K4.out.then HC2.out)
            by_cases hum : u < m
            · have humi : (u : Int) < m := by omega
              obtain ⟨p, ab, cb, rfl, g0, g1, _, g3, _, _⟩ := (HF.out.later HC2.out).at u (by rw [HXM.out]; exact hum)
              obtain ⟨b1, b2⟩ := HB.out u hum
              cases hc : (xs.getD u dFV).d.contains X
              · have HQ : Hid (∀ q, Calls Try.prog 22 #[.slice ab (xs.getD u dFV).d.length cb, .int .i64 X] (wr.drewN q) fun e w' => e = .returned (.bool false) ∧ w' = wr.drewN q) := fun q => by
                  have := has_any (wr.drewN q) _ _ X (Lies.later g3 ((Chg.refl no wr).drewN q)) (by omega)
                  rw [hc] at this
                  exact this
                obtain ⟨dl, hdl⟩ : ∃ dl, (xs.getD u dFV).d.length = dl := ⟨_, rfl⟩
                rw [hdl] at g1 HQ
                clear g3 hc hdl b1 b2 g0
                go_wp2_with fail
                go_quiet ((go_at_call 22; exact Calls.quiet_of_same (HQ.out _)))
                go_wp2
                go_roundw
                case rel => exact ⟨u + 1, by omega, by go_num, HC2.out.drewN _⟩
                case measure => simp [intOf]; omega
              · have HQ : Hid (∀ q, Calls Try.prog 22 #[.slice ab (xs.getD u dFV).d.length cb, .int .i64 X] (wr.drewN q) fun e w' => e = .returned (.bool true) ∧ w' = wr.drewN q) := fun q => by
                  have := has_any (wr.drewN q) _ _ X (Lies.later g3 ((Chg.refl no wr).drewN q)) (by omega)
                  rw [hc] at this
                  exact this
                have hd := HDP2.out u hum hc
                obtain ⟨dl, hdl⟩ : ∃ dl, (xs.getD u dFV).d.length = dl := ⟨_, rfl⟩
                obtain ⟨bu, hbu⟩ : ∃ bu, (xs.getD u dFV).b = bu := ⟨_, rfl⟩
                rw [hdl] at g1 HQ
                rw [hbu] at b1 hd
                have HDP3 : Hid (∀ j, j < m → lvlI bu < lvlI (xs.getD j dFV).b → onI h (xs.getD j dFV).b L = true → ((xs.getD j dFV).d.length : Int) = z) := hd
                have HLU : Hid (∀ W, Calls Try.prog 24 #[.int .i64 bu] W fun e w' => e = .returned (.int .i64 (lvlI bu)) ∧ w' = W) := fun W => level_any W _ (by omega)
                have HGU : Hid (∀ W, Chg no w4 W → W.cell? (p.add (u * 2)) = some (.int .i64 bu)) := fun W k => by
                  obtain ⟨p', _, _, e', g, _⟩ := (HF.out.later k).at u (by rw [HXM.out]; exact hum)
                  cases e'
                  rw [hbu] at g
                  exact g
                obtain ⟨V, hV⟩ : ∃ V, lvlI bu = V := ⟨_, rfl⟩
                rw [hV] at HLU HDP3
                clear g3 hc hdl b2 g0 hd hbu hV
                go_wp2_with fail
                go_quiet ((go_at_call 22; exact Calls.quiet_of_same (HQ.out _)))
                go_wp2_with fail
                clear HQ g1 e0 e1
                rename World => w12
                go_loopw [19] (fun jv wq => ∃ j : Nat, j ≤ m ∧ jv = .int .i64 (j : Int) ∧ Chg no w4 wq) (fun jv _ => m - (intOf jv).toNat)
                case atStart => exact ⟨0, by omega, rfl, HC2.out.drewN _⟩
                case round =>
                  obtain ⟨j, hj, rfl, hC3⟩ := hrel
                  have HC3 : Hid (Chg no w4 wr) := hC3
                  clear hC3
                  obtain ⟨y', e', e0, e1⟩ := HIX.out wr (K4.out.then HC3.out)
                  cases e'
                  have gu := HGU.out wr HC3.out
                  by_cases hjm : j < m
                  · have hji : (j : Int) < m := by omega
                    obtain ⟨p', ab', cb', e', g0, g1, _, g3, _, _⟩ := (HF.out.later HC3.out).at j (by rw [HXM.out]; exact hjm)
                    cases e'
                    obtain ⟨b1', _⟩ := HB.out j hjm
                    have hf := HDP3.out j hjm
                    obtain ⟨bb, hbb⟩ : ∃ bb, (xs.getD j dFV).b = bb := ⟨_, rfl⟩
                    obtain ⟨dl', hdl⟩ : ∃ dl, (xs.getD j dFV).d.length = dl := ⟨_, rfl⟩
                    rw [hbb] at g0 hf b1'
                    rw [hdl] at g1 hf
                    have HLJ : Hid (∀ W, Calls Try.prog 24 #[.int .i64 bb] W fun e w' => e = .returned (.int .i64 (lvlI bb)) ∧ w' = W) := fun W => level_any W _ (by omega)
                    obtain ⟨VJ, hVJ⟩ : ∃ V, lvlI bb = V := ⟨_, rfl⟩
                    rw [hVJ] at HLJ hf
                    by_cases hv : V < VJ
                    · cases ho : onI h bb L
                      · have HOQ : Hid (∀ W, Calls Try.prog 23 #[.int .i64 h, .int .i64 bb, .int .i64 L] W fun e w' => e = .returned (.bool false) ∧ ∃ n, w' = W.drewN n) := fun W => by
                          have := on_any W h bb L
                          rw [ho] at this
                          exact this
                        clear g3 hbb hdl hf ho hVJ b1' b1
                        go_wp2_with fail
                        go_quiet ((first | (go_at_call_of 24 bb; exact Calls.quiet_of_same (HLJ.out _)) | (go_at_call_of 24 bu; exact Calls.quiet_of_same (HLU.out _)) | (go_at_call 23; exact Calls.quiet_of (HOQ.out _))))
                        go_wp2
                        go_roundw
                        case rel => exact ⟨j + 1, by omega, by go_num, HC3.out.drewN _⟩
                        case measure => simp [intOf]; omega
                      · have HOQ : Hid (∀ W, Calls Try.prog 23 #[.int .i64 h, .int .i64 bb, .int .i64 L] W fun e w' => e = .returned (.bool true) ∧ ∃ n, w' = W.drewN n) := fun W => by
                          have := on_any W h bb L
                          rw [ho] at this
                          exact this
                        have hz' := hf hv ho
                        have hzl : ¬ (dl' : Int) < z := by omega
                        have hzd : decide ((dl' : Int) < z) = false := decide_eq_false hzl
                        clear g3 hbb hdl hf ho hz' hVJ b1' b1
                        go_wp2_with fail
                        go_quiet ((first | (go_at_call_of 24 bb; exact Calls.quiet_of_same (HLJ.out _)) | (go_at_call_of 24 bu; exact Calls.quiet_of_same (HLU.out _)) | (go_at_call 23; exact Calls.quiet_of (HOQ.out _))))
                        go_wp2
                        go_roundw
                        case rel => exact ⟨j + 1, by omega, by go_num, HC3.out.drewN _⟩
                        case measure => simp [intOf]; omega
                    · have hvd : decide (V < VJ) = false := decide_eq_false hv
                      clear g3 hbb hdl hf hVJ b1' b1
                      go_wp2_with fail
                      go_quiet ((first | (go_at_call_of 24 bb; exact Calls.quiet_of_same (HLJ.out _)) | (go_at_call_of 24 bu; exact Calls.quiet_of_same (HLU.out _))))
                      go_wp2
                      go_roundw
                      case rel => exact ⟨j + 1, by omega, by go_num, HC3.out.drewN _⟩
                      case measure => simp [intOf]; omega
                  · obtain rfl : j = m := by omega
                    have hji : ¬ ((j : Int) < j) := by omega
                    go_wp2
                    go_roundw
                    case rel => exact ⟨u + 1, by omega, by go_num, HC3.out⟩
                    case measure => simp [intOf]; omega
            · obtain rfl : u = m := by omega
              have humi : ¬ ((u : Int) < u) := by omega
              go_wp2
              go_roundw
              case rel => exact ⟨i + 1, by omega, by go_num, HC2.out⟩
              case measure => simp [intOf]; omega
        · obtain rfl : i = k := by omega
          have hii : ¬ ((i : Int) < i) := by omega
          go_wp2_with fail
          refine (first_any _).mono ?_
          rintro e w13 ⟨rfl, k13⟩
          go_wp2
          go_ret
          exact ⟨rfl, ((K4.out.then HC.out).then k13).below⟩

end Go.Proofs.Ytkaohjlnlgennaa.deep
