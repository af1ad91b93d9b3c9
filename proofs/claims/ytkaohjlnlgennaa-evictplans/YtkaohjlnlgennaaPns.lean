/- The law EvictPlans, walked. -/
import Derived.Test.YtkaohjlnlgennaaPlh
import Derived.Test.YtkaohjlnlgennaaRpz
import Derived.Test.YtkaohjlnlgennaaDpt
import Derived.Test.YtkaohjlnlgennaaEqs
import Derived.Test.YtkaohjlnlgennaaFrp
import Derived.Below
namespace Go.Proofs.Ytkaohjlnlgennaa.plans
open Go.ChangeShapes Go.WideShapes Go.ChangeAt Go.RowKit Go.Proofs.Ytkaohjlnlgennaa.hp Go.Proofs.Ytkaohjlnlgennaa.tm Go.Proofs.Ytkaohjlnlgennaa.ev Go.Proofs.Ytkaohjlnlgennaa.st
set_option linter.unusedVariables false
set_option linter.unusedSimpArgs false

set_option maxRecDepth 100000 in
set_option maxHeartbeats 2000000 in
theorem many1 (w : World) (h z leaf : Int) (a2 : Option Addr) (l2 c2 : Nat) (a3 : Option Addr) (l3 c3 : Nat) (hh : 60 < l2) :
    Calls Try.prog 3 #[.int .i64 h, .int .i64 z, .slice a2 l2 c2, .slice a3 l3 c3, .int .i64 leaf] w fun e w' => e = .returned (.bool true) ∧ Below w.heap.size w w' := by
  have hi : (60 : Int) < l2 := by omega
  go_enter Try.func3, Try.ntmps3
  go_wp2_with fail
  refine (first_any _).mono ?_
  rintro e w1 ⟨rfl, k1⟩
  go_wp2_with fail
  refine (first_any _).mono ?_
  rintro e w3 ⟨rfl, k3⟩
  go_wp2
  go_ret
  exact ⟨rfl, (k1.then k3).below⟩

set_option maxRecDepth 100000 in
set_option maxHeartbeats 2000000 in
theorem many2 (w : World) (h z leaf : Int) (a2 : Option Addr) (l2 c2 : Nat) (a3 : Option Addr) (l3 c3 : Nat) (hh : l2 ≤ 60) (hk : 60 < l3) :
    Calls Try.prog 3 #[.int .i64 h, .int .i64 z, .slice a2 l2 c2, .slice a3 l3 c3, .int .i64 leaf] w fun e w' => e = .returned (.bool true) ∧ Below w.heap.size w w' := by
  have hi : ¬ (60 : Int) < l2 := by omega
  have hki : (60 : Int) < l3 := by omega
  go_enter Try.func3, Try.ntmps3
  go_wp2_with fail
  refine (first_any _).mono ?_
  rintro e w1 ⟨rfl, k1⟩
  go_wp2_with fail
  refine (first_any _).mono ?_
  rintro e w3 ⟨rfl, k3⟩
  go_wp2
  go_ret
  exact ⟨rfl, (k1.then k3).below⟩

set_option maxRecDepth 100000 in
set_option maxHeartbeats 8000000 in
theorem yes (w : World) (h z leaf : Int) (a2 : Option Addr) (c2 : Nat) (a3 : Option Addr) (c3 : Nat) (ls : List Int) (its : List (Int × Int))
    (A2 : Lies (Old w) w (.slice a2 ls.length c2) (ls.map (Value.int .i64))) (A3 : Lie (Old w) w (.slice a3 its.length c3) its.length (its.flatMap f2)) (hh : ls.length ≤ 60) (hk : its.length ≤ 60) :
    Calls Try.prog 3 #[.int .i64 h, .int .i64 z, .slice a2 ls.length c2, .slice a3 its.length c3, .int .i64 leaf] w fun e w' => e = .returned (.bool true) ∧ Below w.heap.size w w' := by
  obtain ⟨i0, hi0, hz0, hz1, hz2⟩ := info_parts info35
  have HA2 : Hid (∀ W, Chg no w W → Lies (Old W) W (.slice a2 ls.length c2) (ls.map (Value.int .i64))) := fun W k => Lies.later A2 k
  have HA3 : Hid (∀ W, Chg no w W → Lie (Old W) W (.slice a3 its.length c3) its.length (its.flatMap f2)) := fun W k => Lie.later A3 k
  have HIT : Hid (∀ W, Chg no w W → ∀ k, k < its.length → ∃ y, a3 = some y ∧ W.cell? (y.add (k * 2)) = some (.int .i64 (its.getD k (0, 0)).1) ∧ W.cell? ⟨(y.add (k * 2)).block, (y.add (k * 2)).off + 1, none⟩ = some (.int .i64 (its.getD k (0, 0)).2)) := by
    intro W kk k hk
    obtain ⟨y, e1, e2, e3, _⟩ := (A3.same kk).at2 k hk
    exact ⟨y, e1, e2, e3⟩
  have HI : Hid (∀ W, Chg no w W → Calls Try.prog 12 #[.slice a3 its.length c3] W fun e w' => ∃ a c, e = .returned (.slice a its.length c) ∧ Lie (fun _ => True) w' (.slice a its.length c) its.length (its.flatMap f2) ∧ Chg no W w') := fun W k => by
    refine (items_any W _ its (HA3.out W k) (by omega)).mono ?_
    rintro e w' ⟨v', rfl, N⟩
    obtain ⟨a, c, rfl⟩ := N.shape
    exact ⟨a, c, rfl, Lie.mono N.lie (fun _ _ => trivial), N.2⟩
  obtain ⟨left, hleft⟩ : ∃ x, (planA h z ls its).2 = x := ⟨_, rfl⟩
  obtain ⟨fls, hfls⟩ : ∃ x, (planA h z ls its).1 = x := ⟨_, rfl⟩
  have hlq := planA_left h z ls its
  rw [hleft] at hlq
  have HP : Hid (∀ W a n c b m d, Lies (fun _ => True) W (.slice a n c) (ls.map (Value.int .i64)) → Lie (fun _ => True) W (.slice b m d) its.length (its.flatMap f2) → Calls Try.prog 10 #[.int .i64 h, .int .i64 z, .slice a n c, .slice b m d] W fun e w' => ∃ fa m fc a q c xs, e = .returned (.tuple #[.slice fa m fc, .slice a q c]) ∧ Fls w' (.slice fa m fc) xs ∧ Lies (Old w') w' (.slice a q c) (left.map (Value.int .i64)) ∧ (xs.length ≤ 127 ∧ abs xs = fls ∧ ∀ x ∈ xs, x.d.length ≤ 4) ∧ Chg no W w') := fun W a n c b m d h1 h2 => by
    refine (plan_any W h z _ _ ls its h1 h2 (by omega) (by omega)).mono ?_
    rintro e w' ⟨fv, lv, xs, rfl, b1, b2, b3, b4⟩
    rw [hleft] at b3
    obtain ⟨a, c, rfl, _⟩ := b3.slice
    obtain ⟨fa, fc, rfl⟩ := b1.slice
    exact ⟨fa, _, fc, a, _, c, xs, rfl, b1, b3, ⟨(fv_len b2).1, by rw [b2, hfls], (fv_len b2).2⟩, b4⟩
  have HPR : Hid (∀ W b m d, Chg no w W → Lie (fun _ => True) W (.slice b m d) its.length (its.flatMap f2) → Calls Try.prog 11 #[.int .i64 h, .int .i64 z, .slice a2 ls.length c2, .slice b m d] W fun e w' => ∃ fa m fc a q c xs, e = .returned (.tuple #[.slice fa m fc, .slice a q c]) ∧ Fls w' (.slice fa m fc) xs ∧ Lies (Old w') w' (.slice a q c) (left.map (Value.int .i64)) ∧ abs xs = fls ∧ Chg no W w') := fun W b m d k h2 => by
    refine (rplan_any W h z _ _ ls its (HA2.out W k) h2 (by omega) (by omega)).mono ?_
    rintro e w' ⟨fv, lv, xs, rfl, b1, b2, b3, b4⟩
    rw [hleft] at b3
    obtain ⟨a, c, rfl, _⟩ := b3.slice
    obtain ⟨fa, fc, rfl⟩ := b1.slice
    exact ⟨fa, _, fc, a, _, c, xs, rfl, b1, b3, by rw [b2, hfls], b4⟩
  have HC : Hid (∀ W, Chg no w W → Calls Try.prog 9 #[.slice a2 ls.length c2] W fun e w' => ∃ a n c, e = .returned (.slice a n c) ∧ New W ls (.slice a n c) w') := fun W k => by
    refine (copyInts_any _ ls _ W (HA2.out W k) (by omega)).mono ?_
    rintro e w' ⟨v, rfl, N⟩
    obtain ⟨a, c, rfl⟩ := N.shape
    exact ⟨a, _, c, rfl, N⟩
  have HD : Hid (∀ W, Chg no w W → Calls Try.prog 16 #[.int .i64 h, .slice a2 ls.length c2, .int .i64 leaf] W fun e w' => e = .returned (.int .i64 (dpI h ls leaf)) ∧ w' = W) := fun W k => deepest_any W h leaf _ ls (HA2.out W k) (by omega)
  have HDR : Hid (∀ W, Chg no w W → Calls Try.prog 17 #[.int .i64 h, .slice a2 ls.length c2, .int .i64 leaf] W fun e w' => e = .returned (.int .i64 (dpI h ls leaf)) ∧ Chg no W w') := fun W k => rdeepest_any W h leaf _ ls (HA2.out W k) (by omega)
  obtain ⟨D, hD⟩ : ∃ D, dpI h ls leaf = D := ⟨_, rfl⟩
  have hfl2 : (its.flatMap f2).length = its.length * 2 := flat_length len2 its
  have HON : Hid (∀ u ∈ its.flatMap f2, u.oneCell' = true) := one2 its
  rw [hD] at HD HDR
  clear hleft hfls A2 A3 hD
  obtain ⟨n, hn⟩ : ∃ n, its.length = n := ⟨_, rfl⟩
  obtain ⟨l2, hl2⟩ : ∃ n, ls.length = n := ⟨_, rfl⟩
  have HN : Hid (its.length = n) := hn
  have HLL : Hid (ls.length = l2) := hl2
  simp only [hn, hl2] at hk hh HIT HI HP HPR HC HD HDR HA2 HA3 hlq hfl2 ⊢
  clear hn hl2
  have HF2 : Hid ((its.flatMap f2).length = n * 2) := hfl2
  have hi : ¬ (60 : Int) < l2 := by omega
  have hki : ¬ (60 : Int) < n := by omega
  have hneq := neq35
  have hgrd := eqg35
  clear hfl2
  go_enter Try.func3, Try.ntmps3
  go_wp2_with fail
  refine (first_any _).mono ?_
  rintro e w1 ⟨rfl, k1⟩
  have HC1 := HC.out w1 k1
  go_wp2_with fail
  refine HC1.mono ?_
  rintro e w2 ⟨x2, n2, y2, rfl, N2⟩
  have k2 := k1.then N2.2
  have HN2 : Hid (New w1 ls (.slice x2 n2 y2) w2) := N2
  have HK2 : Hid (Chg no w w2) := k2
  clear HC1 N2 k1 k2 HC
  go_wp2_with (at_builtin; refine wpList_fresh (w0 := w2) rfl _ _ 23 rfl 35 i0 (nv 0 0) 2 16 Try.underlying23 hi0 hz0 hz1 hz2 rfl (by decide) (.slice (some ⟨w2.heap.size, 0, none⟩) 0 0) 0 [] rfl (Fresh.made 35 2 (Chg.refl no w2) (Chg.refl no _)) (Old (w2.alloc (.cells #[] 35))) (.slice a3 n c3) n (its.flatMap f2) rfl (HA3.out _ (HK2.out.alloc _)) HF2.out HON.out n (by omega) (by unfold maxLen; omega) (by omega) ?_; intro b3 d3 w3 F3)
  have k3 : Chg no w2 w3 := F3.out.2
  have HN3 : Hid (New w1 ls (.slice x2 n2 y2) w3) := HN2.out.chg k3
  have HK3 : Hid (Chg no w w3) := HK2.out.then k3
  have HLL3 : Hid (∀ W, Chg no w3 W → Lie (fun _ => True) W (.slice b3 n d3) n (its.flatMap f2)) := fun W k => (Lie.of_owns F3.out.1 (fun _ _ => trivial)).same k
  have HP3 := HP.out w3 x2 n2 y2 b3 n d3 (HN3.out.lies.mono (fun _ _ => trivial)) (HLL3.out w3 (Chg.refl no _))
  clear F3 k3 HN2 HK2 HP HA3 HF2 HON
  go_wp2_with fail
  refine HP3.mono ?_
  rintro e w4 ⟨fa, m, fc, al, q, cl, xs, rfl, F4, L4, ⟨hm1, hab, hd4⟩, k4⟩
  have C4 : Hid (Chg no w3 w4) := k4
  have HF : Hid (Fls w4 (.slice fa m fc) xs) := F4
  have HL : Hid (Lies (Old w4) w4 (.slice al q cl) (left.map (Value.int .i64))) := L4
  have HAB : Hid (abs xs = fls ∧ xs.length ≤ 127 ∧ ∀ x ∈ xs, x.d.length ≤ 4) := ⟨hab, hm1, hd4⟩
  have HI4 := HI.out w4 (HK3.out.then k4)
  clear HP3 k4 F4 L4 hm1 hab hd4 HI
  go_wp2_with fail
  refine HI4.mono ?_
  rintro e w5 ⟨x5, y5, rfl, N5, k5⟩
  have C5 : Hid (Chg no w4 w5) := k5
  have HP5 := HPR.out w5 x5 n y5 ((HK3.out.then C4.out).then k5) N5
  clear HI4 N5 k5 HPR
  go_wp2_with fail
  refine HP5.mono ?_
  rintro e w6 ⟨ga, gm, gc, rl, rq, rc, ys, rfl, G6, R6, hab6, k6⟩
  have C6 : Hid (Chg no w4 w6) := C5.out.then k6
  have HG : Hid (Fls w6 (.slice ga gm gc) ys) := G6
  have HR : Hid (Lies (Old w6) w6 (.slice rl rq rc) (left.map (Value.int .i64))) := R6
  have HYA : Hid (abs ys = fls) := hab6
  clear HP5 k6 G6 R6 hab6 C5
  go_wp2_with fail
  go_loopw [17] (fun iv wr => ∃ i : Nat, i ≤ n ∧ iv = .int .i64 (i : Int) ∧ Chg no w6 wr) (fun iv _ => n - (intOf iv).toNat)
  case atStart => exact ⟨0, by omega, rfl, Chg.refl no _⟩
  case round =>
    obtain ⟨i, hi', rfl, hC⟩ := hrel
    have C7 : Hid (Chg no w6 wr) := hC
    clear hC
    by_cases hin : i < n
    · have hii : (i : Int) < n := by omega
      have k36 : Chg no w3 wr := (C4.out.then C6.out).then C7.out
      obtain ⟨y, rfl, e0, e1⟩ := HIT.out wr (HK3.out.then k36) i hin
      obtain ⟨u, rfl, g0, g1, _⟩ := (HLL3.out wr k36).at2 i (by rw [HN.out]; exact hin)
      obtain ⟨⟨X, L⟩, hXL⟩ : ∃ X, its.getD i (0, 0) = X := ⟨_, rfl⟩
      rw [hXL] at e0 e1 g0 g1
      simp only at e0 e1 g0 g1
      have hxx : decide (X = X ∧ L = L) = true := by simp
      clear hXL k36
      go_wp2_with fail
      go_quiet (fail)
      go_wp2
      go_roundw
      case rel => exact ⟨i + 1, by omega, by go_num, C7.out.drewN _⟩
      case measure => simp [intOf]; omega
    · obtain rfl : i = n := by omega
      have hii : ¬ ((i : Int) < i) := by omega
      have hDD : (D == D) = true := by simp
      go_wp2_with fail
      refine (first_any _).mono ?_
      rintro e w7 ⟨rfl, k7⟩
      have C8 : Hid (Chg no w6 w7) := C7.out.then k7
      have H14 := fills_any w7 _ xs (HF.out.later (C6.out.then C8.out)) (by have := HAB.out.2.1; omega)
      clear k7 C7
      go_wp2_with fail
      refine H14.mono ?_
      rintro e w8 ⟨v8, rfl, N8⟩
      have F8 : Fls w8 v8 xs := Fls.of_new N8 (HF.out.later (C6.out.then C8.out))
      obtain ⟨xa8, m8, xc8, rfl⟩ : ∃ a m c, v8 = .slice a m c := by
        obtain ⟨a, c, e⟩ := F8.slice
        exact ⟨_, _, _, e⟩
      have C9 : Hid (Chg no w6 w8) := C8.out.then N8.2
      have HSF := sameFills_same w8 _ _ xs ys F8 (HG.out.later C9.out) (by have := HAB.out.2.1; omega) (by rw [HAB.out.1, HYA.out]) (fun x hx => by have := HAB.out.2.2 x hx; omega)
      clear H14 N8 F8 C8
      go_wp2_with fail
      refine HSF.mono ?_
      rintro e w9 ⟨rfl, k9⟩
      have C10 : Hid (Chg no w6 w9) := C9.out.then k9
      have HIS := ints_same w9 _ _ left (Lies.later HL.out (C6.out.then C10.out)) (Lies.later HR.out C10.out) (by omega)
      clear HSF k9 C9
      go_wp2_with fail
      refine HIS.mono ?_
      rintro e w10 ⟨rfl, n10, hw10⟩
      have C11 : Hid (Chg no w6 w10) := by
        show Chg _ _ _
        rw [hw10]
        exact C10.out.drewN n10
      have C12 : Hid (Chg no w3 w10) := (C4.out.then C6.out).then C11.out
      have HD10 := HD.out w10 (HK3.out.then C12.out)
      clear HIS hw10 C10 C11
      go_wp2_with fail
      refine HD10.mono ?_
      rintro e w11 ⟨rfl, rfl⟩
      have HDR11 := HDR.out w11 (HK3.out.then C12.out)
      clear HD10
      go_wp2_with fail
      refine HDR11.mono ?_
      rintro e w12 ⟨rfl, k12⟩
      have C13 : Hid (Chg no w3 w12) := C12.out.then k12
      have HIS2 := ints_same w12 _ _ ls ((HN3.out.chg C13.out).lies) (HA2.out w12 (HK3.out.then C13.out)) (by rw [HLL.out]; omega)
      clear HDR11 k12 C12
      go_wp2_with fail
      refine HIS2.mono ?_
      rintro e w13 ⟨rfl, n13, hw13⟩
      have C14 : Hid (Chg no w w13) := by
        show Chg _ _ _
        rw [hw13]
        exact (HK3.out.then C13.out).drewN n13
      clear hw13
      go_wp2
      go_ret
      exact ⟨rfl, C14.out.below⟩

end Go.Proofs.Ytkaohjlnlgennaa.plans
