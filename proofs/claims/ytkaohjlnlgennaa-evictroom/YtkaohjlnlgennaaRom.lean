/- The law EvictRoom, walked. -/
import Derived.Test.YtkaohjlnlgennaaPfv
import Derived.Test.YtkaohjlnlgennaaRmy
import Derived.Test.YtkaohjlnlgennaaDpt
import Derived.Below
namespace Go.Proofs.Ytkaohjlnlgennaa.room
open Go.ChangeShapes Go.WideShapes Go.ChangeAt Go.RowKit Go.Proofs.Ytkaohjlnlgennaa.hp Go.Proofs.Ytkaohjlnlgennaa.tm Go.Proofs.Ytkaohjlnlgennaa.ev Go.Proofs.Ytkaohjlnlgennaa.st
set_option linter.unusedVariables false
set_option linter.unusedSimpArgs false

set_option maxRecDepth 100000 in
set_option maxHeartbeats 2000000 in
theorem many1 (w : World) (h : Int) (a2 : Option Addr) (l2 c2 : Nat) (a3 : Option Addr) (l3 c3 : Nat) (hh : 60 < l2) :
    Calls Try.prog 6 #[.int .i64 h, .slice a2 l2 c2, .slice a3 l3 c3] w fun e w' => e = .returned (.bool true) ∧ Below w.heap.size w w' := by
  have hi : (60 : Int) < l2 := by omega
  go_enter Try.func6, Try.ntmps6
  go_wp2_with fail
  refine (first_any _).mono ?_
  rintro e w1 ⟨rfl, k1⟩
  go_wp2_with fail
  refine (first_any _).mono ?_
  rintro e w3 ⟨rfl, k3⟩
  go_wp2
  go_ret
  exact ⟨rfl, (k1.then k3).below⟩

set_option maxRecDepth 100000 in
set_option maxHeartbeats 2000000 in
theorem none1 (w : World) (h : Int) (a2 : Option Addr) (c2 : Nat) (a3 : Option Addr) (l3 c3 : Nat) :
    Calls Try.prog 6 #[.int .i64 h, .slice a2 0 c2, .slice a3 l3 c3] w fun e w' => e = .returned (.bool true) ∧ Below w.heap.size w w' := by
  go_enter Try.func6, Try.ntmps6
  go_wp2_with fail
  refine (first_any _).mono ?_
  rintro e w1 ⟨rfl, k1⟩
  go_wp2_with fail
  refine (first_any _).mono ?_
  rintro e w3 ⟨rfl, k3⟩
  go_wp2
  go_ret
  exact ⟨rfl, (k1.then k3).below⟩

set_option maxRecDepth 100000 in
set_option maxHeartbeats 2000000 in
theorem many2 (w : World) (h : Int) (a2 : Option Addr) (l2 c2 : Nat) (a3 : Option Addr) (l3 c3 : Nat) (hh : l2 ≤ 60) (h1 : 0 < l2) (hk : 4 < l3) :
    Calls Try.prog 6 #[.int .i64 h, .slice a2 l2 c2, .slice a3 l3 c3] w fun e w' => e = .returned (.bool true) ∧ Below w.heap.size w w' := by
  have hi : ¬ (60 : Int) < l2 := by omega
  have h1i : ¬ (l2 : Int) < 1 := by omega
  have hki : (4 : Int) < l3 := by omega
  go_enter Try.func6, Try.ntmps6
  go_wp2_with fail
  refine (first_any _).mono ?_
  rintro e w1 ⟨rfl, k1⟩
  go_wp2_with fail
  refine (first_any _).mono ?_
  rintro e w3 ⟨rfl, k3⟩
  go_wp2
  go_ret
  exact ⟨rfl, (k1.then k3).below⟩

set_option maxRecDepth 100000 in
set_option maxHeartbeats 2000000 in
theorem not (w : World) (h : Int) (a2 : Option Addr) (c2 : Nat) (a3 : Option Addr) (c3 : Nat) (ls : List Int) (its : List (Int × Int))
    (A2 : Lies (Old w) w (.slice a2 ls.length c2) (ls.map (Value.int .i64))) (A3 : Lie (Old w) w (.slice a3 its.length c3) its.length (its.flatMap f2)) (hh : ls.length ≤ 60) (h1 : 0 < ls.length) (hk : its.length ≤ 4) (hm : mayB h 4 ls its = false) :
    Calls Try.prog 6 #[.int .i64 h, .slice a2 ls.length c2, .slice a3 its.length c3] w fun e w' => e = .returned (.bool true) ∧ Below w.heap.size w w' := by
  have hi : ¬ (60 : Int) < ls.length := by omega
  have h1i : ¬ (ls.length : Int) < 1 := by omega
  have hki : ¬ (4 : Int) < its.length := by omega
  go_enter Try.func6, Try.ntmps6
  go_wp2_with fail
  refine (first_any _).mono ?_
  rintro e w1 ⟨rfl, k1⟩
  have HI := items_any w1 _ its (Lie.later A3 k1) (by omega)
  go_wp2_with fail
  refine HI.mono ?_
  rintro e w2 ⟨v2, rfl, N2⟩
  have k2 := k1.then N2.2
  have HM := rmayPlan_any w2 h 4 _ v2 ls its (Lies.later A2 k2) N2.lie (by omega) (by omega)
  rw [hm] at HM
  obtain ⟨x2, y2, rfl⟩ := N2.shape
  clear HI
  go_wp2_with fail
  refine HM.mono ?_
  rintro e w3 ⟨rfl, k3⟩
  have k4 := k2.then k3
  clear HM k3 N2
  go_wp2_with fail
  refine (first_any _).mono ?_
  rintro e w4 ⟨rfl, k5⟩
  go_wp2
  go_ret
  exact ⟨rfl, (k4.then k5).below⟩

set_option maxRecDepth 100000 in
set_option maxHeartbeats 8000000 in
theorem yes (w : World) (h : Int) (a2 : Option Addr) (c2 : Nat) (a3 : Option Addr) (c3 : Nat) (ls : List Int) (its : List (Int × Int))
    (A2 : Lies (Old w) w (.slice a2 ls.length c2) (ls.map (Value.int .i64))) (A3 : Lie (Old w) w (.slice a3 its.length c3) its.length (its.flatMap f2)) (hh : ls.length ≤ 60) (h1 : 0 < ls.length) (hk : its.length ≤ 4) (hm : mayB h 4 ls its = true) :
    Calls Try.prog 6 #[.int .i64 h, .slice a2 ls.length c2, .slice a3 its.length c3] w fun e w' => e = .returned (.bool true) ∧ Below w.heap.size w w' := by
  have hne : ls ≠ [] := by
    rintro rfl
    simp at h1
  have HA2 : Hid (∀ W, Chg no w W → Lies (Old W) W (.slice a2 ls.length c2) (ls.map (Value.int .i64))) := fun W k => Lies.later A2 k
  have HA3 : Hid (∀ W, Chg no w W → Lie (Old W) W (.slice a3 its.length c3) its.length (its.flatMap f2)) := fun W k => Lie.later A3 k
  have HIT : Hid (∀ W, Chg no w W → ∀ k, k < its.length → ∃ y, a3 = some y ∧ W.cell? (y.add (k * 2)) = some (.int .i64 (its.getD k (0, 0)).1) ∧ W.cell? ⟨(y.add (k * 2)).block, (y.add (k * 2)).off + 1, none⟩ = some (.int .i64 (its.getD k (0, 0)).2)) := by
    intro W kk k hk
    obtain ⟨y, e1, e2, e3, _⟩ := (A3.same kk).at2 k hk
    exact ⟨y, e1, e2, e3⟩
  have HI : Hid (∀ W, Chg no w W → Calls Try.prog 12 #[.slice a3 its.length c3] W fun e w' => ∃ a c, e = .returned (.slice a its.length c) ∧ Lie (fun _ => True) w' (.slice a its.length c) its.length (its.flatMap f2) ∧ Chg no W w') := fun W k => by
    refine (items_any W _ its (HA3.out W k) (by omega)).mono ?_
    rintro e w' ⟨v', rfl, N⟩
    obtain ⟨a, c, rfl⟩ := N.shape
    exact ⟨a, c, rfl, Lie.mono N.lie (fun _ _ => trivial), N.2⟩
  have HM : Hid (∀ W v', Chg no w W → Lie (fun _ => True) W v' its.length (its.flatMap f2) → Calls Try.prog 18 #[.int .i64 h, .int .i64 4, .slice a2 ls.length c2, v'] W fun e w' => e = .returned (.bool true) ∧ Chg no W w') := fun W v' k hv => by
    have := rmayPlan_any W h 4 _ v' ls its (HA2.out W k) hv (by omega) (by omega)
    rw [hm] at this
    exact this
  have HP : Hid (∀ W, Chg no w W → Calls Try.prog 10 #[.int .i64 h, .int .i64 4, .slice a2 ls.length c2, .slice a3 its.length c3] W fun e w' => ∃ fa fc a c xs, e = .returned (.tuple #[.slice fa xs.length fc, .slice a 0 c]) ∧ Fls w' (.slice fa xs.length fc) xs ∧ (xs.length ≤ 127 ∧ (∀ k, k < xs.length → (xs.getD k dFV).b ≤ 127 ∧ (xs.getD k dFV).d.length ≤ 4) ∧ ∀ i, i < its.length → atTo xs (its.getD i (0, 0)).1 = dpI h ls (its.getD i (0, 0)).2 ∧ 0 ≤ dpI h ls (its.getD i (0, 0)).2) ∧ Chg no W w') := fun W k => by
    refine (plan_any W h 4 _ _ ls its (HA2.out W k) (HA3.out W k) (by omega) (by omega)).mono ?_
    rintro e w' ⟨fv, lv, xs, rfl, b1, b2, b3, b4⟩
    rw [room_left hm hne hk] at b3
    obtain ⟨a, c, rfl, _⟩ := b3.slice
    obtain ⟨fa, fc, rfl⟩ := b1.slice
    exact ⟨fa, fc, a, c, xs, rfl, b1, ⟨(fv_len b2).1, fun k hk => ⟨(b_at hm b2 _ (getD_mem hk)).2.1, (fv_len b2).2 _ (getD_mem hk)⟩, fun i hi => room_at hm b2 hne hk i hi⟩, b4⟩
  have HD : Hid (∀ W, Chg no w W → ∀ leaf, Calls Try.prog 16 #[.int .i64 h, .slice a2 ls.length c2, .int .i64 leaf] W fun e w' => e = .returned (.int .i64 (dpI h ls leaf)) ∧ w' = W) := fun W k leaf => deepest_any W h leaf _ ls (HA2.out W k) (by omega)
  clear hm hne A2 A3 HA2 HA3
  obtain ⟨n, hn⟩ : ∃ n, its.length = n := ⟨_, rfl⟩
  obtain ⟨l2, hl2⟩ : ∃ n, ls.length = n := ⟨_, rfl⟩
  simp only [hn, hl2] at hk hh h1 HIT HI HM HP HD ⊢
  clear hn hl2
  have hi : ¬ (60 : Int) < l2 := by omega
  have h1i : ¬ (l2 : Int) < 1 := by omega
  have hki : ¬ (4 : Int) < n := by omega
  go_enter Try.func6, Try.ntmps6
  go_wp2_with fail
  refine (first_any _).mono ?_
  rintro e w1 ⟨rfl, k1⟩
  have HI1 := HI.out w1 k1
  go_wp2_with fail
  refine HI1.mono ?_
  rintro e w2 ⟨x2, y2, rfl, N2, kk⟩
  have k2 := k1.then kk
  have HM2 := HM.out w2 _ k2 N2
  clear HI1 N2 kk
  go_wp2_with fail
  refine HM2.mono ?_
  rintro e w3 ⟨rfl, k3⟩
  have k4 := k2.then k3
  have HP3 := HP.out w3 k4
  clear HM2 k3 k2 k1
  go_wp2_with fail
  refine HP3.mono ?_
  rintro e w4 ⟨fa, fc, al, cl, xs, rfl, F4, ⟨hm1, hb, hr⟩, k5⟩
  have K4 : Hid (Chg no w w4) := k4.then k5
  have HF : Hid (Fls w4 (.slice fa xs.length fc) xs) := F4
  have HB : Hid (∀ k, k < xs.length → (xs.getD k dFV).b ≤ 127 ∧ (xs.getD k dFV).d.length ≤ 4) := hb
  have HR : Hid (∀ i, i < n → atTo xs (its.getD i (0, 0)).1 = dpI h ls (its.getD i (0, 0)).2 ∧ 0 ≤ dpI h ls (its.getD i (0, 0)).2) := hr
  clear HP3 k4 k5 F4 hb hr HI HM HP
  obtain ⟨m, hm⟩ : ∃ m, xs.length = m := ⟨_, rfl⟩
  have HXM : Hid (xs.length = m) := hm
  rw [hm] at hm1 HF HB ⊢
  have hmi : (m : Int) ≤ 127 := by omega
  clear hm
  go_wp2_with fail
  go_loopw [9] (fun iv wr => ∃ i : Nat, i ≤ n ∧ iv = .int .i64 (i : Int) ∧ Chg no w4 wr) (fun iv _ => n - (intOf iv).toNat)
  case atStart => exact ⟨0, by omega, rfl, Chg.refl no _⟩
  case round =>
    obtain ⟨i, hi', rfl, hC⟩ := hrel
    have HC : Hid (Chg no w4 wr) := hC
    clear hC
    by_cases hin : i < n
    · have hii : (i : Int) < n := by omega
      obtain ⟨D, hD⟩ : ∃ D, dpI h ls (its.getD i (0, 0)).2 = D := ⟨_, rfl⟩
      obtain ⟨X, hX⟩ : ∃ X, (its.getD i (0, 0)).1 = X := ⟨_, rfl⟩
      obtain ⟨L, hL⟩ : ∃ L, (its.getD i (0, 0)).2 = L := ⟨_, rfl⟩
      obtain ⟨hr1, hr2⟩ := HR.out i hin
      rw [hD] at hr1 hr2
      have HD' : Hid (∀ W, Chg no w W → Calls Try.prog 16 #[.int .i64 h, .slice a2 l2 c2, .int .i64 L] W fun e w' => e = .returned (.int .i64 D) ∧ w' = W) := fun W k => by
        have := HD.out W k L
        rw [← hL, hD] at this
        rw [← hL]
        exact this
      have hd0 : ¬ D < 0 := by omega
      rw [hX] at hr1
      have HR1 : Hid (atTo xs X = D) := hr1
      have HIX : Hid (∀ W, Chg no w W → ∃ y, a3 = some y ∧ W.cell? (y.add (i * 2)) = some (.int .i64 X) ∧ W.cell? ⟨(y.add (i * 2)).block, (y.add (i * 2)).off + 1, none⟩ = some (.int .i64 L)) := fun W k => by
        have := HIT.out W k i hin
        rw [hX, hL] at this
        exact this
      clear hr1 hD hX hL hr2
      go_wp2_with fail
      rename World => w5
      go_loopw [10, 11] (fun av kv wq => ∃ k : Nat, k ≤ m ∧ kv = .int .i64 (k : Int) ∧ av = .int .i64 (atTo (xs.take k) X) ∧ Chg no w4 wq) (fun _ kv _ => m - (intOf kv).toNat)
      case atStart => exact ⟨0, by omega, rfl, rfl, HC.out⟩
      case round =>
        obtain ⟨k, hk', rfl, rfl, hC2⟩ := hrel
        have HC2 : Hid (Chg no w4 wr) := hC2
        clear hC2
        obtain ⟨y, rfl, e0, e1⟩ := HIX.out wr (K4.out.then HC2.out)
        by_cases hkm : k < m
        · have hkmi : (k : Int) < m := by omega
          obtain ⟨u, ab, cb, rfl, g0, g1, _, g3, _, _⟩ := (HF.out.later HC2.out).at k (by rw [HXM.out]; exact hkm)
          obtain ⟨b1, b2⟩ := HB.out k hkm
          cases hc : (xs.getD k dFV).d.contains X
          · have HQ : Hid (∀ q, Calls Try.prog 22 #[.slice ab (xs.getD k dFV).d.length cb, .int .i64 X] (wr.drewN q) fun e w' => e = .returned (.bool false) ∧ w' = wr.drewN q) := fun q => by
              have := has_any (wr.drewN q) _ _ X (Lies.later g3 ((Chg.refl no wr).drewN q)) (by omega)
              rw [hc] at this
              exact this
            have HE : Hid (atTo (xs.take (k + 1)) X = atTo (xs.take k) X) := atTo_no (by rw [HXM.out]; exact hkm) hc
            obtain ⟨A, hA⟩ : ∃ A, atTo (xs.take k) X = A := ⟨_, rfl⟩
            obtain ⟨dl, hdl⟩ : ∃ dl, (xs.getD k dFV).d.length = dl := ⟨_, rfl⟩
            rw [hA] at HE ⊢
            rw [hdl] at g1 HQ
            clear g3 hc hA hdl b1 b2 g0
            go_wp2_with fail
            go_quiet ((go_at_call 22; exact Calls.quiet_of_same (HQ.out _)))
            go_wp2
            go_roundw
            case rel => exact ⟨k + 1, by omega, by go_num, by rw [HE.out], HC2.out.drewN _⟩
            case measure => simp [intOf]; omega
          · have HQ : Hid (∀ q, Calls Try.prog 22 #[.slice ab (xs.getD k dFV).d.length cb, .int .i64 X] (wr.drewN q) fun e w' => e = .returned (.bool true) ∧ w' = wr.drewN q) := fun q => by
              have := has_any (wr.drewN q) _ _ X (Lies.later g3 ((Chg.refl no wr).drewN q)) (by omega)
              rw [hc] at this
              exact this
            have HE : Hid (atTo (xs.take (k + 1)) X = lvlI (xs.getD k dFV).b) := atTo_yes (by rw [HXM.out]; exact hkm) hc
            have HLV : Hid (∀ W, Calls Try.prog 24 #[.int .i64 (xs.getD k dFV).b] W fun e w' => e = .returned (.int .i64 (lvlI (xs.getD k dFV).b)) ∧ w' = W) := fun W => level_any W _ (by omega)
            obtain ⟨A, hA⟩ : ∃ A, atTo (xs.take k) X = A := ⟨_, rfl⟩
            obtain ⟨dl, hdl⟩ : ∃ dl, (xs.getD k dFV).d.length = dl := ⟨_, rfl⟩
            obtain ⟨bb, hbb⟩ : ∃ bb, (xs.getD k dFV).b = bb := ⟨_, rfl⟩
            obtain ⟨V, hV⟩ : ∃ V, lvlI bb = V := ⟨_, rfl⟩
            rw [hA]
            rw [hdl] at g1 HQ
            rw [hbb] at g0 HE HLV
            rw [hV] at HE HLV
            clear g3 hc hA hdl b1 b2 hbb hV
            go_wp2_with fail
            go_quiet ((go_at_call 22; exact Calls.quiet_of_same (HQ.out _)))
            go_wp2_with fail
            refine (HLV.out _).mono ?_
            rintro e w6 ⟨rfl, rfl⟩
            go_wp2
            go_roundw
            case rel => exact ⟨k + 1, by omega, by go_num, by rw [HE.out], HC2.out.drewN _⟩
            case measure => simp [intOf]; omega
        · obtain rfl : k = m := by omega
          have hkmi : ¬ ((k : Int) < k) := by omega
          have e : xs.take k = xs := by rw [← HXM.out, List.take_length]
          rw [e, HR1.out]
          have HD2 := HD'.out wr (K4.out.then HC2.out)
          clear e
          go_wp2_with fail
          refine HD2.mono ?_
          rintro e w6 ⟨rfl, rfl⟩
          go_wp2
          go_roundw
          case rel => exact ⟨i + 1, by omega, by go_num, HC2.out⟩
          case measure => simp [intOf]; omega
    · obtain rfl : i = n := by omega
      have hii : ¬ ((i : Int) < i) := by omega
      go_wp2_with fail
      refine (first_any _).mono ?_
      rintro e w7 ⟨rfl, k7⟩
      go_wp2
      go_ret
      exact ⟨rfl, ((K4.out.then HC.out).then k7).below⟩

end Go.Proofs.Ytkaohjlnlgennaa.room
