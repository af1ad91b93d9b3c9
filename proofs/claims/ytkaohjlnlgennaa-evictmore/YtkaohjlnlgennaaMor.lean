/- The law EvictMore, walked. -/
import Derived.Test.YtkaohjlnlgennaaPlh
import Derived.Test.YtkaohjlnlgennaaRmy
import Derived.Test.YtkaohjlnlgennaaSrd
import Derived.Below
namespace Go.Proofs.Ytkaohjlnlgennaa.more
open Go.ChangeShapes Go.WideShapes Go.ChangeAt Go.RowKit Go.Proofs.Ytkaohjlnlgennaa.hp Go.Proofs.Ytkaohjlnlgennaa.tm Go.Proofs.Ytkaohjlnlgennaa.ev Go.Proofs.Ytkaohjlnlgennaa.st
set_option linter.unusedVariables false
set_option linter.unusedSimpArgs false

set_option maxRecDepth 100000 in
set_option maxHeartbeats 2000000 in
theorem many1 (w : World) (h z : Int) (a2 : Option Addr) (l2 c2 : Nat) (a3 : Option Addr) (l3 c3 : Nat) (hh : 60 < l2) :
    Calls Try.prog 7 #[.int .i64 h, .int .i64 z, .slice a2 l2 c2, .slice a3 l3 c3] w fun e w' => e = .returned (.bool true) ∧ Below w.heap.size w w' := by
  have hi : (60 : Int) < l2 := by omega
  go_enter Try.func7, Try.ntmps7
  go_wp2_with fail
  refine (first_any _).mono ?_
  rintro e w1 ⟨rfl, k1⟩
  go_wp2_with fail
  refine (first_any _).mono ?_
  rintro e w3 ⟨rfl, k3⟩
  go_wp2
  go_ret
  exact ⟨rfl, (k1.then k3).below⟩

set_option maxRecDepth 100000 in
set_option maxHeartbeats 2000000 in
theorem many2 (w : World) (h z : Int) (a2 : Option Addr) (l2 c2 : Nat) (a3 : Option Addr) (l3 c3 : Nat) (hh : l2 ≤ 60) (hk : 60 < l3) :
    Calls Try.prog 7 #[.int .i64 h, .int .i64 z, .slice a2 l2 c2, .slice a3 l3 c3] w fun e w' => e = .returned (.bool true) ∧ Below w.heap.size w w' := by
  have hi : ¬ (60 : Int) < l2 := by omega
  have hki : (60 : Int) < l3 := by omega
  go_enter Try.func7, Try.ntmps7
  go_wp2_with fail
  refine (first_any _).mono ?_
  rintro e w1 ⟨rfl, k1⟩
  go_wp2_with fail
  refine (first_any _).mono ?_
  rintro e w3 ⟨rfl, k3⟩
  go_wp2
  go_ret
  exact ⟨rfl, (k1.then k3).below⟩

set_option maxRecDepth 100000 in
set_option maxHeartbeats 2000000 in
theorem many3 (w : World) (h z : Int) (a2 : Option Addr) (l2 c2 : Nat) (a3 : Option Addr) (l3 c3 : Nat) (hh : l2 ≤ 60) (hk : l3 ≤ 60) (hz : 4 ≤ z) :
    Calls Try.prog 7 #[.int .i64 h, .int .i64 z, .slice a2 l2 c2, .slice a3 l3 c3] w fun e w' => e = .returned (.bool true) ∧ Below w.heap.size w w' := by
  have hi : ¬ (60 : Int) < l2 := by omega
  have hki : ¬ (60 : Int) < l3 := by omega
  go_enter Try.func7, Try.ntmps7
  go_wp2_with fail
  refine (first_any _).mono ?_
  rintro e w1 ⟨rfl, k1⟩
  go_wp2_with fail
  refine (first_any _).mono ?_
  rintro e w3 ⟨rfl, k3⟩
  go_wp2
  go_ret
  exact ⟨rfl, (k1.then k3).below⟩

set_option maxRecDepth 100000 in
set_option maxHeartbeats 2000000 in
theorem not (w : World) (h z : Int) (a2 : Option Addr) (c2 : Nat) (a3 : Option Addr) (c3 : Nat) (ls : List Int) (its : List (Int × Int))
    (A2 : Lies (Old w) w (.slice a2 ls.length c2) (ls.map (Value.int .i64))) (A3 : Lie (Old w) w (.slice a3 its.length c3) its.length (its.flatMap f2)) (hh : ls.length ≤ 60) (hk : its.length ≤ 60) (hz : z < 4) (hm : mayB h z ls its = false) :
    Calls Try.prog 7 #[.int .i64 h, .int .i64 z, .slice a2 ls.length c2, .slice a3 its.length c3] w fun e w' => e = .returned (.bool true) ∧ Below w.heap.size w w' := by
  have hi : ¬ (60 : Int) < ls.length := by omega
  have hki : ¬ (60 : Int) < its.length := by omega
  have hzi : ¬ (4 : Int) ≤ z := by omega
  go_enter Try.func7, Try.ntmps7
  go_wp2_with fail
  refine (first_any _).mono ?_
  rintro e w1 ⟨rfl, k1⟩
  have HI := items_any w1 _ its (Lie.later A3 k1) (by omega)
  go_wp2_with fail
  refine HI.mono ?_
  rintro e w2 ⟨v2, rfl, N2⟩
  have k2 := k1.then N2.2
  have HM := rmayPlan_any w2 h z _ v2 ls its (Lies.later A2 k2) N2.lie (by omega) (by omega)
  rw [hm] at HM
  obtain ⟨x2, y2, rfl⟩ := N2.shape
  clear HI
  go_wp2_with fail
  refine HM.mono ?_
  rintro e w3 ⟨rfl, k3⟩
  have k4 := k2.then k3
  clear HM k3 N2
  go_wp2_with fail
  refine (first_any _).mono ?_
  rintro e w4 ⟨rfl, k5⟩
  go_wp2
  go_ret
  exact ⟨rfl, (k4.then k5).below⟩

set_option maxRecDepth 100000 in
set_option maxHeartbeats 8000000 in
theorem yes (w : World) (h z : Int) (a2 : Option Addr) (c2 : Nat) (a3 : Option Addr) (c3 : Nat) (ls : List Int) (its : List (Int × Int))
    (A2 : Lies (Old w) w (.slice a2 ls.length c2) (ls.map (Value.int .i64))) (A3 : Lie (Old w) w (.slice a3 its.length c3) its.length (its.flatMap f2)) (hh : ls.length ≤ 60) (hk : its.length ≤ 60) (hz : z < 4) (hm : mayB h z ls its = true) :
    Calls Try.prog 7 #[.int .i64 h, .int .i64 z, .slice a2 ls.length c2, .slice a3 its.length c3] w fun e w' => e = .returned (.bool true) ∧ Below w.heap.size w w' := by
  obtain ⟨i0, hi0, hz0, hz1, hz2⟩ := info_parts info3
  have hzb : 1 ≤ z := (mayB_iff.1 hm).2.1.1
  have HA2 : Hid (∀ W, Chg no w W → Lies (Old W) W (.slice a2 ls.length c2) (ls.map (Value.int .i64))) := fun W k => Lies.later A2 k
  have HA3 : Hid (∀ W, Chg no w W → Lie (Old W) W (.slice a3 its.length c3) its.length (its.flatMap f2)) := fun W k => Lie.later A3 k
  have HIT : Hid (∀ W, Chg no w W → ∀ k, k < its.length → ∃ y, a3 = some y ∧ W.cell? (y.add (k * 2)) = some (.int .i64 (its.getD k (0, 0)).1)) := by
    intro W kk k hk
    obtain ⟨y, e1, e2, e3, _⟩ := (A3.same kk).at2 k hk
    exact ⟨y, e1, e2⟩
  have HI : Hid (∀ W, Chg no w W → Calls Try.prog 12 #[.slice a3 its.length c3] W fun e w' => ∃ a c, e = .returned (.slice a its.length c) ∧ Lie (fun _ => True) w' (.slice a its.length c) its.length (its.flatMap f2) ∧ Chg no W w') := fun W k => by
    refine (items_any W _ its (HA3.out W k) (by omega)).mono ?_
    rintro e w' ⟨v', rfl, N⟩
    obtain ⟨a, c, rfl⟩ := N.shape
    exact ⟨a, c, rfl, Lie.mono N.lie (fun _ _ => trivial), N.2⟩
  have HM : Hid (∀ W v', Chg no w W → Lie (fun _ => True) W v' its.length (its.flatMap f2) → Calls Try.prog 18 #[.int .i64 h, .int .i64 z, .slice a2 ls.length c2, v'] W fun e w' => e = .returned (.bool true) ∧ Chg no W w') := fun W v' k hv => by
    have := rmayPlan_any W h z _ v' ls its (HA2.out W k) hv (by omega) (by omega)
    rw [hm] at this
    exact this
  obtain ⟨few, hfew⟩ : ∃ x, (planA h (z + 1) ls its).2 = x := ⟨_, rfl⟩
  obtain ⟨many, hmany⟩ : ∃ x, (planA h z ls its).2 = x := ⟨_, rfl⟩
  have HP1 : Hid (∀ W, Chg no w W → Calls Try.prog 10 #[.int .i64 h, .int .i64 (z + 1), .slice a2 ls.length c2, .slice a3 its.length c3] W fun e w' => ∃ fv a c, e = .returned (.tuple #[fv, .slice a few.length c]) ∧ Chg no W w') := fun W k => by
    refine (plan_any W h (z + 1) _ _ ls its (HA2.out W k) (HA3.out W k) (by omega) (by omega)).mono ?_
    rintro e w' ⟨fv, lv, xs, rfl, b1, b2, b3, b4⟩
    rw [hfew] at b3
    obtain ⟨a, c, rfl, _⟩ := b3.slice
    rw [List.length_map]
    exact ⟨fv, a, c, rfl, b4⟩
  have HP2 : Hid (∀ W, Chg no w W → Calls Try.prog 10 #[.int .i64 h, .int .i64 z, .slice a2 ls.length c2, .slice a3 its.length c3] W fun e w' => ∃ fv a c xs, e = .returned (.tuple #[fv, .slice a many.length c]) ∧ Fls w' fv xs ∧ (xs.length ≤ 127 ∧ held (abs xs) + many.length = its.length) ∧ Chg no W w') := fun W k => by
    refine (plan_any W h z _ _ ls its (HA2.out W k) (HA3.out W k) (by omega) (by omega)).mono ?_
    rintro e w' ⟨fv, lv, xs, rfl, b1, b2, b3, b4⟩
    have hs := planA_held hm
    rw [hmany] at b3 hs
    obtain ⟨a, c, rfl, _⟩ := b3.slice
    rw [List.length_map]
    rw [← b2] at hs
    exact ⟨fv, a, c, xs, rfl, b1, ⟨(fv_len b2).1, hs⟩, b4⟩
  obtain ⟨S, hS⟩ : ∃ S, ids its = S := ⟨_, rfl⟩
  have HP3 : Hid (∀ W, Chg no w W → Calls Try.prog 10 #[.int .i64 h, .int .i64 z, .slice none 0 0, .slice a3 its.length c3] W fun e w' => ∃ a c al ml cl, e = .returned (.tuple #[.slice a 0 c, .slice al ml cl]) ∧ Lies (Old w') w' (.slice al ml cl) ((sortI S).map (Value.int .i64)) ∧ Chg no W w') := fun W k => by
    refine (plan_any W h z _ _ [] its (J := Old W) (.inl ⟨rfl, rfl⟩) (HA3.out W k) (by simp) (by omega)).mono ?_
    rintro e w' ⟨fv, lv, xs, rfl, b1, b2, b3, b4⟩
    rw [planA_none hm] at b2 b3
    have hx : xs.length = 0 := by rw [← abs_len, b2]; rfl
    obtain ⟨a, c, rfl⟩ := b1.slice
    rw [hx]
    rw [hS] at b3
    obtain ⟨al, cl, rfl, _⟩ := b3.slice
    exact ⟨a, c, al, _, cl, rfl, b3, b4⟩
  have hfm : (few.length : Int) ≤ many.length := by
    have := planA_more hm hz
    rw [hfew, hmany] at this
    omega
  have hmi : many.length ≤ its.length := by
    have := planA_left h z ls its
    rw [hmany] at this
    exact this
  have HSL : Hid (S.length = its.length) := by show _ = _; rw [← hS]; simp [ids]
  have HSG : Hid (∀ k, k < its.length → S.getD k 0 = (its.getD k (0, 0)).1) := fun k hk => by
    rw [← hS]
    unfold ids
    rw [List.getD_eq_getElem?_getD, List.getElem?_map, List.getD_eq_getElem?_getD, List.getElem?_eq_getElem hk]
    rfl
  clear hm hfew hmany hS A2 A3 HA2 HA3
  obtain ⟨n, hn⟩ : ∃ n, its.length = n := ⟨_, rfl⟩
  obtain ⟨l2, hl2⟩ : ∃ n, ls.length = n := ⟨_, rfl⟩
  simp only [hn, hl2] at hk hh HIT HI HM HP1 HP2 HP3 hmi HSL HSG ⊢
  clear hn hl2
  have hi : ¬ (60 : Int) < l2 := by omega
  have hki : ¬ (60 : Int) < n := by omega
  have hzi : ¬ (4 : Int) ≤ z := by omega
  go_enter Try.func7, Try.ntmps7
  go_wp2_with fail
  refine (first_any _).mono ?_
  rintro e w1 ⟨rfl, k1⟩
  have HI1 := HI.out w1 k1
  go_wp2_with fail
  refine HI1.mono ?_
  rintro e w2 ⟨x2, y2, rfl, N2, kk⟩
  have k2 := k1.then kk
  have HM2 := HM.out w2 _ k2 N2
  clear HI1 N2 kk
  go_wp2_with fail
  refine HM2.mono ?_
  rintro e w3 ⟨rfl, k3⟩
  have k4 := k2.then k3
  have HP3' := HP1.out w3 k4
  clear HM2 k3 k2 k1
  go_wp2_with fail
  refine HP3'.mono ?_
  rintro e w4 ⟨fv4, a4, c4, rfl, k5⟩
  have k6 := k4.then k5
  have HP4 := HP2.out w4 k6
  clear HP3' k4 k5
  go_wp2_with fail
  refine HP4.mono ?_
  rintro e w5 ⟨fv5, a5, c5, xs, rfl, F5, ⟨hx1, hx2⟩, k7⟩
  obtain ⟨fa5, fc5, rfl⟩ := F5.slice
  have k8 := k6.then k7
  have HP5 := HP3.out w5 k8
  have HF5 : Hid (Fls w5 (.slice fa5 xs.length fc5) xs) := F5
  clear HP4 k6 k7 F5
  go_wp2_with fail
  refine HP5.mono ?_
  rintro e w6 ⟨ga, gc, al, ml, cl, rfl, L6, k9⟩
  have K6 : Hid (Chg no w w6) := k8.then k9
  have HF6 : Hid (Fls w6 (.slice fa5 xs.length fc5) xs) := HF5.out.later k9
  have HL6 : Hid (Lies (Old w6) w6 (.slice al ml cl) ((sortI S).map (Value.int .i64))) := L6
  clear HP5 k8 k9 HF5 L6
  clear HI HM HP1 HP2 HP3 
  go_wp2_with fail
  go_loopw [15, 16] (fun v i wr => ∃ k : Nat, k ≤ n ∧ i = .int .i64 (k : Int) ∧ New w6 (S.take k) v wr) (fun _ i _ => n - (intOf i).toNat)
  case atStart => exact ⟨0, by omega, rfl, New.nil w6⟩
  case round =>
    obtain ⟨k, hkk, rfl, hN⟩ := hrel
    obtain ⟨xa, xc, rfl⟩ := hN.shape
    by_cases hkn : k < n
    · have hkj : (k : Int) < n := by omega
      obtain ⟨y, rfl, e0⟩ := HIT.out wr (K6.out.then hN.2) k hkn
      have hsn := take_next S 0 k (by rw [HSL.out]; exact hkn)
      rw [HSG.out k hkn] at hsn
      obtain ⟨B, hB⟩ : ∃ B, (its.getD k (0, 0)).1 = B := ⟨_, rfl⟩
      rw [hB] at e0 hsn
      obtain ⟨T, hT⟩ : ∃ T, S.take k = T := ⟨_, rfl⟩
      have hTk : T.length ≤ k := by rw [← hT]; exact List.length_take_le _ _
      rw [hT] at hN hsn ⊢
      have HN : Hid (New w6 T (.slice xa T.length xc) wr) := hN
      have HE : Hid (S.take (k + 1) = T ++ [B]) := hsn
      have HW : Hid (Lies (fun _ => True) (wr.alloc (.cells #[.int .i64 B] 3)) (.slice (some ⟨wr.heap.size, 0, none⟩) 1 1) ([B].map (Value.int .i64))) := .inr ⟨_, 1, rfl, fun _ => trivial, fun j u hu => news_at (xs := [.int .i64 B]) j u hu⟩
      clear hN hsn hB hT
      go_wp2_with (at_builtin; refine wpList_append_grew rfl _ _ 22 rfl 3 i0 (.int .i64 0) 8 Try.underlying22 hi0 hz0 hz1 hz2 rfl (.slice xa T.length xc) T.length (T.map (Value.int .i64)) rfl (owns_base (HN.out.chg ((Chg.refl no wr).alloc _)).1 (Nat.zero_le _)) (fun _ => True) (.slice (some ⟨wr.heap.size, 0, none⟩) 1 1) ([B].map (Value.int .i64)) rfl HW.out (ints_one _) (by simp; unfold maxLen; omega) (by simp; omega) ?_; intro v5 w5 G5)
      have HN5 : Hid (New w6 (T ++ [B]) v5 w5) := (HN.out.chg ((Chg.refl no wr).alloc _)).grew G5 rfl
      obtain ⟨a5, c5, rfl⟩ := HN5.out.shape
      clear G5 HN HW
      go_wp2
      go_roundw
      case rel => exact ⟨k + 1, by omega, by go_num, by rw [HE.out]; exact HN5.out⟩
      case measure => simp [intOf]; omega
    · obtain rfl : k = n := by omega
      have hkj : ¬ ((k : Int) < k) := by omega
      have e : S.take k = S := by rw [← HSL.out, List.take_length]
      rw [e] at hN ⊢
      have HN : Hid (New w6 S (.slice xa S.length xc) wr) := hN
      clear hN
      go_wp2_with fail
      refine (first_any _).mono ?_
      rintro e w7 ⟨rfl, k7⟩
      have HN7 : Hid (New w6 S (.slice xa S.length xc) w7) := HN.out.chg k7
      have HH := held_any w7 _ xs (HF6.out.later HN7.out.2) (by omega) (by omega)
      have hs : ((held (abs xs) : Nat) : Int) = (k : Int) - many.length := by omega
      rw [hs] at HH
      clear HN k7 hs
      go_wp2_with fail
      refine HH.mono ?_
      rintro e w8 ⟨rfl, k8⟩
      have HN8 : Hid (New w6 S (.slice xa S.length xc) w8) := HN7.out.chg k8
      have HSO := sorted_any w8 xa S.length xc S HN8.out.lies rfl (by rw [HSL.out]; omega)
      clear HN7 k8 HH
      go_wp2_with fail
      refine HSO.mono ?_
      rintro e w9 ⟨v9, rfl, N9⟩
      have K9 := HN8.out.2.then N9.2
      obtain ⟨m9, x9, c9, rfl⟩ : ∃ m x c, v9 = .slice x m c := by
        obtain ⟨x9, c9, e⟩ := N9.shape
        exact ⟨_, _, _, e⟩
      have HC := ints_same w9 (.slice al ml cl) (.slice x9 m9 c9) (sortI S) (Lies.later HL6.out K9) N9.lies (by rw [sortI_len, HSL.out]; omega)
      have K9' : Hid (Chg no w w9) := K6.out.then K9
      clear HSO N9 K9
      go_wp2_with fail
      refine HC.mono ?_
      rintro e w10 ⟨rfl, n10, hn10⟩
      go_wp2
      go_ret
      exact ⟨rfl, by exact (K9'.out.drewN n10).below⟩

end Go.Proofs.Ytkaohjlnlgennaa.more
