/- The law EvictOnce, walked. -/
import Derived.Test.YtkaohjlnlgennaaPfv
import Derived.Test.YtkaohjlnlgennaaRmy
import Derived.Test.YtkaohjlnlgennaaQad
import Derived.Below
namespace Go.Proofs.Ytkaohjlnlgennaa.once
open Go.ChangeShapes Go.WideShapes Go.ChangeAt Go.RowKit Go.Proofs.Ytkaohjlnlgennaa.hp Go.Proofs.Ytkaohjlnlgennaa.tm Go.Proofs.Ytkaohjlnlgennaa.ev Go.Proofs.Ytkaohjlnlgennaa.st
set_option linter.unusedVariables false
set_option linter.unusedSimpArgs false

set_option maxRecDepth 100000 in
set_option maxHeartbeats 2000000 in
theorem many1 (w : World) (h z : Int) (a2 : Option Addr) (l2 c2 : Nat) (a3 : Option Addr) (l3 c3 : Nat) (hh : 60 < l2) :
    Calls Try.prog 4 #[.int .i64 h, .int .i64 z, .slice a2 l2 c2, .slice a3 l3 c3] w fun e w' => e = .returned (.bool true) ∧ Below w.heap.size w w' := by
  have hi : (60 : Int) < l2 := by omega
  go_enter Try.func4, Try.ntmps4
  go_wp2_with fail
  refine (first_any _).mono ?_
  rintro e w1 ⟨rfl, k1⟩
  go_wp2_with fail
  refine (first_any _).mono ?_
  rintro e w3 ⟨rfl, k3⟩
  go_wp2
  go_ret
  exact ⟨rfl, (k1.then k3).below⟩

set_option maxRecDepth 100000 in
set_option maxHeartbeats 2000000 in
theorem many2 (w : World) (h z : Int) (a2 : Option Addr) (l2 c2 : Nat) (a3 : Option Addr) (l3 c3 : Nat) (hh : l2 ≤ 60) (hk : 60 < l3) :
    Calls Try.prog 4 #[.int .i64 h, .int .i64 z, .slice a2 l2 c2, .slice a3 l3 c3] w fun e w' => e = .returned (.bool true) ∧ Below w.heap.size w w' := by
  have hi : ¬ (60 : Int) < l2 := by omega
  have hki : (60 : Int) < l3 := by omega
  go_enter Try.func4, Try.ntmps4
  go_wp2_with fail
  refine (first_any _).mono ?_
  rintro e w1 ⟨rfl, k1⟩
  go_wp2_with fail
  refine (first_any _).mono ?_
  rintro e w3 ⟨rfl, k3⟩
  go_wp2
  go_ret
  exact ⟨rfl, (k1.then k3).below⟩

set_option maxRecDepth 100000 in
set_option maxHeartbeats 2000000 in
theorem not (w : World) (h z : Int) (a2 : Option Addr) (c2 : Nat) (a3 : Option Addr) (c3 : Nat) (ls : List Int) (its : List (Int × Int))
    (A2 : Lies (Old w) w (.slice a2 ls.length c2) (ls.map (Value.int .i64))) (A3 : Lie (Old w) w (.slice a3 its.length c3) its.length (its.flatMap f2)) (hh : ls.length ≤ 60) (hk : its.length ≤ 60) (hm : mayB h z ls its = false) :
    Calls Try.prog 4 #[.int .i64 h, .int .i64 z, .slice a2 ls.length c2, .slice a3 its.length c3] w fun e w' => e = .returned (.bool true) ∧ Below w.heap.size w w' := by
  have hi : ¬ (60 : Int) < ls.length := by omega
  have hki : ¬ (60 : Int) < its.length := by omega
  go_enter Try.func4, Try.ntmps4
  go_wp2_with fail
  refine (first_any _).mono ?_
  rintro e w1 ⟨rfl, k1⟩
  have HI := items_any w1 _ its (Lie.later A3 k1) (by omega)
  go_wp2_with fail
  refine HI.mono ?_
  rintro e w2 ⟨v2, rfl, N2⟩
  have k2 := k1.then N2.2
  have HM := rmayPlan_any w2 h z _ v2 ls its (Lies.later A2 k2) N2.lie (by omega) (by omega)
  rw [hm] at HM
  obtain ⟨x2, y2, rfl⟩ := N2.shape
  clear HI
  go_wp2_with fail
  refine HM.mono ?_
  rintro e w3 ⟨rfl, k3⟩
  have k4 := k2.then k3
  clear HM k3 N2
  go_wp2_with fail
  refine (first_any _).mono ?_
  rintro e w4 ⟨rfl, k5⟩
  go_wp2
  go_ret
  exact ⟨rfl, (k4.then k5).below⟩

set_option maxRecDepth 100000 in
set_option maxHeartbeats 8000000 in
theorem yes (w : World) (h z : Int) (a2 : Option Addr) (c2 : Nat) (a3 : Option Addr) (c3 : Nat) (ls : List Int) (its : List (Int × Int))
    (A2 : Lies (Old w) w (.slice a2 ls.length c2) (ls.map (Value.int .i64))) (A3 : Lie (Old w) w (.slice a3 its.length c3) its.length (its.flatMap f2)) (hh : ls.length ≤ 60) (hk : its.length ≤ 60) (hm : mayB h z ls its = true) :
    Calls Try.prog 4 #[.int .i64 h, .int .i64 z, .slice a2 ls.length c2, .slice a3 its.length c3] w fun e w' => e = .returned (.bool true) ∧ Below w.heap.size w w' := by
  have HA2 : Hid (∀ W, Chg no w W → Lies (Old W) W (.slice a2 ls.length c2) (ls.map (Value.int .i64))) := fun W k => Lies.later A2 k
  have HA3 : Hid (∀ W, Chg no w W → Lie (Old W) W (.slice a3 its.length c3) its.length (its.flatMap f2)) := fun W k => Lie.later A3 k
  have HIT : Hid (∀ W, Chg no w W → ∀ k, k < its.length → ∃ y, a3 = some y ∧ W.cell? (y.add (k * 2)) = some (.int .i64 (its.getD k (0, 0)).1) ∧ W.cell? ⟨(y.add (k * 2)).block, (y.add (k * 2)).off + 1, none⟩ = some (.int .i64 (its.getD k (0, 0)).2)) := by
    intro W kk k hk
    obtain ⟨y, e1, e2, e3, _⟩ := (A3.same kk).at2 k hk
    exact ⟨y, e1, e2, e3⟩
  have HI : Hid (∀ W, Chg no w W → Calls Try.prog 12 #[.slice a3 its.length c3] W fun e w' => ∃ a c, e = .returned (.slice a its.length c) ∧ Lie (fun _ => True) w' (.slice a its.length c) its.length (its.flatMap f2) ∧ Chg no W w') := fun W k => by
    refine (items_any W _ its (HA3.out W k) (by omega)).mono ?_
    rintro e w' ⟨v', rfl, N⟩
    obtain ⟨a, c, rfl⟩ := N.shape
    exact ⟨a, c, rfl, Lie.mono N.lie (fun _ _ => trivial), N.2⟩
  have HM : Hid (∀ W v', Chg no w W → Lie (fun _ => True) W v' its.length (its.flatMap f2) → Calls Try.prog 18 #[.int .i64 h, .int .i64 z, .slice a2 ls.length c2, v'] W fun e w' => e = .returned (.bool true) ∧ Chg no W w') := fun W v' k hv => by
    have := rmayPlan_any W h z _ v' ls its (HA2.out W k) hv (by omega) (by omega)
    rw [hm] at this
    exact this
  obtain ⟨left, hleft⟩ : ∃ x, (planA h z ls its).2 = x := ⟨_, rfl⟩
  have HP : Hid (∀ W, Chg no w W → Calls Try.prog 10 #[.int .i64 h, .int .i64 z, .slice a2 ls.length c2, .slice a3 its.length c3] W fun e w' => ∃ fa fc a c xs, e = .returned (.tuple #[.slice fa xs.length fc, .slice a left.length c]) ∧ Fls w' (.slice fa xs.length fc) xs ∧ Lies (Old w') w' (.slice a left.length c) (left.map (Value.int .i64)) ∧
      (xs.length ≤ 127 ∧ left.length ≤ its.length ∧ held (abs xs) + left.length = its.length ∧ (abs xs).map (·.1) = uni h ls ∧
        (∀ k, k < xs.length → ((xs.getD k dFV).d.length : Int) ≤ z ∧ (xs.getD k dFV).d.length ≤ 4) ∧
        (∀ i, i < its.length → ∀ k, k < xs.length → (xs.getD k dFV).d.contains (its.getD i (0, 0)).1 = true → onI h (xs.getD k dFV).b (its.getD i (0, 0)).2 = true) ∧
        (∀ i, i < its.length → left.contains (its.getD i (0, 0)).1 = true → ∀ k, k < xs.length → onI h (xs.getD k dFV).b (its.getD i (0, 0)).2 = true → ((xs.getD k dFV).d.length : Int) = z) ∧
        ∀ i, i < its.length → cnt xs (its.getD i (0, 0)).1 + (if left.contains (its.getD i (0, 0)).1 = true then 1 else 0) = 1) ∧ Chg no W w') := fun W k => by
    refine (plan_any W h z _ _ ls its (HA2.out W k) (HA3.out W k) (by omega) (by omega)).mono ?_
    rintro e w' ⟨fv, lv, xs, rfl, b1, b2, b3, b4⟩
    have hs := planA_held hm
    have hleq := planA_left h z ls its
    have hfull := fun i hi hc y hy => full_at hm b2 (i := i) (hi := hi) (hc := hc) y hy
    have hcnt := fun i (hi : i < its.length) => cnt_once hm b2 _ (item_at i hi).2
    rw [hleft] at b3 hs hleq
    rw [hleft] at hfull hcnt
    rw [← b2] at hs
    obtain ⟨a, c, rfl, _⟩ := b3.slice
    obtain ⟨fa, fc, rfl⟩ := b1.slice
    rw [List.length_map] at b3 ⊢
    refine ⟨fa, fc, a, c, xs, rfl, b1, b3, ⟨(fv_len b2).1, hleq, hs, ?_, fun k hk => ⟨?_, (fv_len b2).2 _ (getD_mem hk)⟩, fun i hi k hk hc => on_at hm b2 i hi _ (getD_mem hk) hc, fun i hi hc k hk ho => hfull i hi hc _ (getD_mem hk) ho, fun i hi => hcnt i hi⟩, b4⟩
    · rw [abs_map hm b2, List.map_map]
      exact List.map_id _
    · have := z_at hm b2 (xs.getD k dFV) (getD_mem hk)
      omega
  have HU : Hid (∀ W, Chg no w W → Calls Try.prog 20 #[.int .i64 h, .slice a2 ls.length c2] W fun e w' => ∃ v', e = .returned v' ∧ New W (uni h ls) v' w') := fun W k => union_any W h _ ls (HA2.out W k) (by omega)
  have hul := uni_length h ls
  obtain ⟨U, hU⟩ : ∃ U, uni h ls = U := ⟨_, rfl⟩
  simp only [hU] at HP HU hul
  clear hm hleft A2 A3 HA2 HA3 hU
  obtain ⟨n, hn⟩ : ∃ n, its.length = n := ⟨_, rfl⟩
  obtain ⟨l2, hl2⟩ : ∃ n, ls.length = n := ⟨_, rfl⟩
  simp only [hn, hl2] at hk hh HIT HI HM HP HU ⊢
  clear hn hl2
  have hi : ¬ (60 : Int) < l2 := by omega
  have hki : ¬ (60 : Int) < n := by omega
  go_enter Try.func4, Try.ntmps4
  go_wp2_with fail
  refine (first_any _).mono ?_
  rintro e w1 ⟨rfl, k1⟩
  have HI1 := HI.out w1 k1
  go_wp2_with fail
  refine HI1.mono ?_
  rintro e w2 ⟨x2, y2, rfl, N2, kk⟩
  have k2 := k1.then kk
  have HM2 := HM.out w2 _ k2 N2
  clear HI1 N2 kk
  go_wp2_with fail
  refine HM2.mono ?_
  rintro e w3 ⟨rfl, k3⟩
  have k4 := k2.then k3
  have HP3 := HP.out w3 k4
  clear HM2 k3 k2 k1
  go_wp2_with fail
  refine HP3.mono ?_
  rintro e w4 ⟨fa, fc, al, cl, xs, rfl, F4, L4, ⟨hm1, hlq, hsum, hus, hb, hon, hfu, hct⟩, k5⟩
  have K4 : Hid (Chg no w w4) := k4.then k5
  have HF : Hid (Fls w4 (.slice fa xs.length fc) xs) := F4
  have HL : Hid (Lies (Old w4) w4 (.slice al left.length cl) (left.map (Value.int .i64))) := L4
  have HB : Hid (∀ k, k < xs.length → ((xs.getD k dFV).d.length : Int) ≤ z ∧ (xs.getD k dFV).d.length ≤ 4) := hb
  have HON : Hid (∀ i, i < n → ∀ k, k < xs.length → (xs.getD k dFV).d.contains (its.getD i (0, 0)).1 = true → onI h (xs.getD k dFV).b (its.getD i (0, 0)).2 = true) := hon
  have HFU : Hid (∀ i, i < n → left.contains (its.getD i (0, 0)).1 = true → ∀ k, k < xs.length → onI h (xs.getD k dFV).b (its.getD i (0, 0)).2 = true → ((xs.getD k dFV).d.length : Int) = z) := hfu
  have HCT : Hid (∀ i, i < n → cnt xs (its.getD i (0, 0)).1 + (if left.contains (its.getD i (0, 0)).1 = true then 1 else 0) = 1) := hct
  have HBU : Hid (Calls Try.prog 19 #[.slice fa xs.length fc] w4 fun e w' => ∃ v', e = .returned v' ∧ New w4 U v' w') := by
    have := buckets_of w4 _ xs F4 (by omega)
    rw [hus] at this
    exact this
  obtain ⟨Hn, hHn⟩ : ∃ x, held (abs xs) = x := ⟨_, rfl⟩
  have HHE : Hid (∀ W, Chg no w4 W → Calls Try.prog 21 #[.slice fa xs.length fc] W fun e w' => e = .returned (.int .i64 (Hn : Int)) ∧ Chg no W w') := fun W k => by
    have := held_any W _ xs (HF.out.later k) (by omega) (by omega)
    rw [hHn] at this
    exact this
  rw [hHn] at hsum
  have hsb : ((Hn : Int) + (left.length : Int) != (n : Int)) = false := by
    simp
    omega
  have hHi : (Hn : Int) ≤ 60 := by omega
  have hlqi : (left.length : Int) ≤ 60 := by omega
  clear HP3 k4 k5 F4 L4 hb hon hfu hct hus hHn HI HM HP
  obtain ⟨m, hm⟩ : ∃ m, xs.length = m := ⟨_, rfl⟩
  obtain ⟨q, hq⟩ : ∃ q, left.length = q := ⟨_, rfl⟩
  have HXM : Hid (xs.length = m) := hm
  have HQL : Hid (left.length = q) := hq
  simp only [hm, hq] at hm1 HF HB HON HFU HBU HHE HL hsb hlqi hlq hsum ⊢
  have hmi : (m : Int) ≤ 127 := by omega
  clear hm hq
  go_wp2_with fail
  refine HBU.out.mono ?_
  rintro e w5 ⟨v5, rfl, N5⟩
  have k5 := N5.2
  have HU5 := HU.out w5 (K4.out.then k5)
  obtain ⟨x5, c5, rfl⟩ := N5.shape
  obtain ⟨ul, hul2⟩ : ∃ ul, U.length = ul := ⟨_, rfl⟩
  have N5L : Hid (Lies (Old w5) w5 (.slice x5 ul c5) (U.map (Value.int .i64))) := by
    have := Lies.old N5.lies
    rw [hul2] at this
    exact this
  rw [hul2] at hul ⊢
  clear N5 HBU HU
  go_wp2_with fail
  refine HU5.mono ?_
  rintro e w6 ⟨v6, rfl, N6⟩
  have k6 := k5.then N6.2
  obtain ⟨x6, c6, e6⟩ := N6.shape
  obtain ⟨m6, hm6⟩ : ∃ m6, U.length = m6 := ⟨_, rfl⟩
  rw [hm6] at e6
  subst e6
  have HC := ints_same w6 _ _ U (Lies.later N5L.out N6.2) N6.lies (by omega)
  clear N6 HU5 N5L hul2 hm6 k5
  go_wp2_with fail
  refine HC.mono ?_
  rintro e w7 ⟨rfl, n7, hw7⟩
  have k7 : Chg no w4 w7 := by rw [hw7]; exact k6.drewN n7
  have HH7 := HHE.out w7 k7
  clear hw7 k6 HC
  go_wp2_with fail
  refine HH7.mono ?_
  rintro e w8 ⟨rfl, k8⟩
  have HK8 : Hid (Chg no w4 w8) := k7.then k8
  clear HH7 k7 k8 HHE
  go_wp2_with fail
  go_loopw [11] (fun iv wr => ∃ i : Nat, i ≤ n ∧ iv = .int .i64 (i : Int) ∧ Chg no w4 wr) (fun iv _ => n - (intOf iv).toNat)
  case atStart => exact ⟨0, by omega, rfl, HK8.out⟩
  case round =>
    obtain ⟨i, hi', rfl, hC⟩ := hrel
    have HC : Hid (Chg no w4 wr) := hC
    clear hC
    by_cases hin : i < n
    · have hii : (i : Int) < n := by omega
      obtain ⟨X, hX⟩ : ∃ X, (its.getD i (0, 0)).1 = X := ⟨_, rfl⟩
      obtain ⟨L, hL⟩ : ∃ L, (its.getD i (0, 0)).2 = L := ⟨_, rfl⟩
      have HON1 := HON.out i hin
      have HFU1 := HFU.out i hin
      have HCT1 := HCT.out i hin
      have HIX : Hid (∀ W, Chg no w W → ∃ y, a3 = some y ∧ W.cell? (y.add (i * 2)) = some (.int .i64 X) ∧ W.cell? ⟨(y.add (i * 2)).block, (y.add (i * 2)).off + 1, none⟩ = some (.int .i64 L)) := fun W k => by
        have := HIT.out W k i hin
        rw [hX, hL] at this
        exact this
      simp only [hX, hL] at HON1 HFU1 HCT1
      have HON2 : Hid (∀ k, k < m → (xs.getD k dFV).d.contains X = true → onI h (xs.getD k dFV).b L = true) := HON1
      have HFU2 : Hid (left.contains X = true → ∀ k, k < m → onI h (xs.getD k dFV).b L = true → ((xs.getD k dFV).d.length : Int) = z) := HFU1
      have HCT2 : Hid (cnt xs X + (if left.contains X = true then 1 else 0) = 1) := HCT1
      have HCT3 : Hid (cnt xs X ≤ 1) := by show _ ≤ _; omega
      clear HON1 HFU1 HCT1 hX hL
      go_wp2_with fail
      rename World => w9
      go_loopw [12, 13] (fun av kv wq => ∃ k : Nat, k ≤ m ∧ kv = .int .i64 (k : Int) ∧ av = .int .i64 ((cnt (xs.take k) X : Nat) : Int) ∧ Chg no w4 wq) (fun _ kv _ => m - (intOf kv).toNat)
      case atStart => exact ⟨0, by omega, rfl, rfl, HC.out⟩
      case round =>
        obtain ⟨k, hk', rfl, rfl, hC2⟩ := hrel
        have HC2 : Hid (Chg no w4 wr) := hC2
        clear hC2
        obtain ⟨y, rfl, e0, e1⟩ := HIX.out wr (K4.out.then HC2.out)
        by_cases hkm : k < m
        · have hkmi : (k : Int) < m := by omega
          obtain ⟨u, ab, cb, rfl, g0, g1, _, g3, _, _⟩ := (HF.out.later HC2.out).at k (by rw [HXM.out]; exact hkm)
          obtain ⟨b1, b2⟩ := HB.out k hkm
          have hle := cnt_le xs X k
          have hle1 := HCT3.out
          cases hc : (xs.getD k dFV).d.contains X
          · have HQ : Hid (∀ q, Calls Try.prog 22 #[.slice ab (xs.getD k dFV).d.length cb, .int .i64 X] (wr.drewN q) fun e w' => e = .returned (.bool false) ∧ w' = wr.drewN q) := fun q => by
              have := has_any (wr.drewN q) _ _ X (Lies.later g3 ((Chg.refl no wr).drewN q)) (by omega)
              rw [hc] at this
              exact this
            have HE : Hid (cnt (xs.take (k + 1)) X = cnt (xs.take k) X) := cnt_no (by rw [HXM.out]; exact hkm) hc
            obtain ⟨A, hA⟩ : ∃ A, cnt (xs.take k) X = A := ⟨_, rfl⟩
            obtain ⟨dl, hdl⟩ : ∃ dl, (xs.getD k dFV).d.length = dl := ⟨_, rfl⟩
            rw [hA] at HE ⊢
            rw [hdl] at g1 HQ b1
            have hzd : ¬ z < (dl : Int) := by omega
            clear g3 hc hA hdl b2 g0 hle hle1
            go_wp2_with fail
            go_quiet ((go_at_call 22; exact Calls.quiet_of_same (HQ.out _)))
            go_wp2
            go_roundw
            case rel => exact ⟨k + 1, by omega, by go_num, by rw [HE.out], HC2.out.drewN _⟩
            case measure => simp [intOf]; omega
          · have HQ : Hid (∀ q, Calls Try.prog 22 #[.slice ab (xs.getD k dFV).d.length cb, .int .i64 X] (wr.drewN q) fun e w' => e = .returned (.bool true) ∧ w' = wr.drewN q) := fun q => by
              have := has_any (wr.drewN q) _ _ X (Lies.later g3 ((Chg.refl no wr).drewN q)) (by omega)
              rw [hc] at this
              exact this
            have HE : Hid (cnt (xs.take (k + 1)) X = cnt (xs.take k) X + 1) := cnt_yes (by rw [HXM.out]; exact hkm) hc
            have ho := HON2.out k hkm hc
            have HOQ : Hid (∀ W, Calls Try.prog 23 #[.int .i64 h, .int .i64 (xs.getD k dFV).b, .int .i64 L] W fun e w' => e = .returned (.bool true) ∧ ∃ n, w' = W.drewN n) := fun W => by
              have := on_any W h (xs.getD k dFV).b L
              rw [ho] at this
              exact this
            obtain ⟨A, hA⟩ : ∃ A, cnt (xs.take k) X = A := ⟨_, rfl⟩
            obtain ⟨dl, hdl⟩ : ∃ dl, (xs.getD k dFV).d.length = dl := ⟨_, rfl⟩
            obtain ⟨bb, hbb⟩ : ∃ bb, (xs.getD k dFV).b = bb := ⟨_, rfl⟩
            rw [hA] at HE hle ⊢
            rw [hdl] at g1 HQ b1
            rw [hbb] at g0 HOQ
            have hzd : ¬ z < (dl : Int) := by omega
            have hAi : (A : Int) ≤ 1 := by omega
            clear g3 hc hA hdl b2 hbb ho
            go_wp2_with fail
            go_quiet ((go_at_call 22; exact Calls.quiet_of_same (HQ.out _)))
            go_wp2_with fail
            go_quiet ((go_at_call 23; exact quiet_add (HOQ.out _)))
            go_wp2
            go_roundw
            case rel => exact ⟨k + 1, by omega, by go_num, by rw [HE.out]; go_num, HC2.out.drewN _⟩
            case measure => simp [intOf]; omega
        · obtain rfl : k = m := by omega
          have hkmi : ¬ ((k : Int) < k) := by omega
          have e : xs.take k = xs := by rw [← HXM.out, List.take_length]
          have HHL := has_any wr _ left X (Lies.later HL.out HC2.out) (by rw [HQL.out]; omega)
          rw [e]
          clear e
          cases hc : left.contains X
          · have hct := HCT2.out
            rw [hc, if_neg (by decide)] at hct
            have hc1 : ((cnt xs X : Nat) : Int) = 1 := by omega
            rw [hc] at HHL
            rw [hc1]
            clear hc1 hct hc
            go_wp2_with fail
            refine HHL.mono ?_
            rintro e w10 ⟨rfl, rfl⟩
            go_wp2
            go_roundw
            case rel => exact ⟨i + 1, by omega, by go_num, HC2.out⟩
            case measure => simp [intOf]; omega
          · have hct := HCT2.out
            rw [hc, if_pos rfl] at hct
            have hc1 : ((cnt xs X : Nat) : Int) = 0 := by omega
            have HFU3 : Hid (∀ j, j < k → onI h (xs.getD j dFV).b L = true → ((xs.getD j dFV).d.length : Int) = z) := HFU2.out hc
            rw [hc] at HHL
            rw [hc1]
            clear hc1 hct hc
            go_wp2_with fail
            refine HHL.mono ?_
            rintro e w10 ⟨rfl, rfl⟩
            clear HHL e0 e1
            go_wp2_with fail
            rename World => w11
            go_loopw [14] (fun jv wq => ∃ j : Nat, j ≤ k ∧ jv = .int .i64 (j : Int) ∧ Chg no w4 wq) (fun jv _ => k - (intOf jv).toNat)
            case atStart => exact ⟨0, by omega, rfl, HC2.out⟩
            case round =>
              obtain ⟨j, hj, rfl, hC3⟩ := hrel
              have HC3 : Hid (Chg no w4 wr) := hC3
              clear hC3
              obtain ⟨y', e', e0, e1⟩ := HIX.out wr (K4.out.then HC3.out)
              cases e'
              by_cases hjk : j < k
              · have hji : (j : Int) < k := by omega
                obtain ⟨u, ab, cb, rfl, g0, g1, _, g3, _, _⟩ := (HF.out.later HC3.out).at j (by rw [HXM.out]; exact hjk)
                have hf := HFU3.out j hjk
                obtain ⟨bb, hbb⟩ : ∃ bb, (xs.getD j dFV).b = bb := ⟨_, rfl⟩
                obtain ⟨dl, hdl⟩ : ∃ dl, (xs.getD j dFV).d.length = dl := ⟨_, rfl⟩
                rw [hbb] at g0 hf
                rw [hdl] at g1 hf
                cases ho : onI h bb L
                · have HOQ : Hid (∀ W, Calls Try.prog 23 #[.int .i64 h, .int .i64 bb, .int .i64 L] W fun e w' => e = .returned (.bool false) ∧ ∃ n, w' = W.drewN n) := fun W => by
                    have := on_any W h bb L
                    rw [ho] at this
                    exact this
                  clear g3 hbb hdl hf ho
                  go_wp2_with fail
                  go_quiet ((go_at_call 23; go_must (exact Calls.quiet_of (HOQ.out _))))
                  go_wp2
                  go_roundw
                  case rel => exact ⟨j + 1, by omega, by go_num, HC3.out.drewN _⟩
                  case measure => simp [intOf]; omega
                · have HOQ : Hid (∀ W, Calls Try.prog 23 #[.int .i64 h, .int .i64 bb, .int .i64 L] W fun e w' => e = .returned (.bool true) ∧ ∃ n, w' = W.drewN n) := fun W => by
                    have := on_any W h bb L
                    rw [ho] at this
                    exact this
                  have hz := hf ho
                  have hzl : ¬ (dl : Int) < z := by omega
                  have hzd : decide ((dl : Int) < z) = false := decide_eq_false hzl
                  clear g3 hbb hdl hf ho hz
                  go_wp2_with fail
                  go_quiet ((go_at_call 23; go_must (exact Calls.quiet_of (HOQ.out _))))
                  go_wp2
                  go_roundw
                  case rel => exact ⟨j + 1, by omega, by go_num, HC3.out.drewN _⟩
                  case measure => simp [intOf]; omega
              · obtain rfl : j = k := by omega
                have hji : ¬ ((j : Int) < j) := by omega
                go_wp2
                go_roundw
                case rel => exact ⟨i + 1, by omega, by go_num, HC3.out⟩
                case measure => simp [intOf]; omega
    · obtain rfl : i = n := by omega
      have hii : ¬ ((i : Int) < i) := by omega
      go_wp2_with fail
      refine (first_any _).mono ?_
      rintro e w12 ⟨rfl, k12⟩
      go_wp2
      go_ret
      exact ⟨rfl, ((K4.out.then HC.out).then k12).below⟩

end Go.Proofs.Ytkaohjlnlgennaa.once
