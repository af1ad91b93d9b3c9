/- The document's Flip, MayBits. -/
import Derived.Test.YtallblnkgmioeaaCmp
import Derived.Test.YtallblnkgmioeaaBts
namespace Go.Proofs.Ytallblnkgmioeaa.st
open Go.ChangeShapes Go.WideShapes Go.ChangeAt Go.RowKit Go.Proofs.Ytallblnkgmioeaa.hp Go.Proofs.Ytallblnkgmioeaa.bt
set_option linter.unusedVariables false
set_option linter.unusedSimpArgs false

def mayN (n : Int) : Bool := decide (1 ≤ n ∧ n ≤ 127)

theorem rmayBits_any (w : World) (n : Int) : Calls Try.prog 10 #[.int .i64 n] w fun e w' => e = .returned (.bool (mayN n)) ∧ w' = w := by
  have hc : n < 1 ∨ (1 ≤ n ∧ n ≤ 127) ∨ (1 ≤ n ∧ 127 < n) := by omega
  rcases hc with h1 | ⟨h1, h2⟩ | ⟨h1, h2⟩
  all_goals
    go_enter Try.func10, Try.ntmps10
    go_wp2
    go_ret
    refine ⟨ret_bool ?_, rfl⟩
    simp [mayN]
    try omega

theorem take_next {α : Type} (xs : List α) (d : α) (k : Nat) (hk : k < xs.length) : xs.take (k + 1) = xs.take k ++ [xs.getD k d] := by
  rw [List.take_succ_eq_append_getElem hk, List.getD_eq_getElem?_getD, List.getElem?_eq_getElem hk]
  rfl

theorem lies_front {J : Nat → Prop} {w : World} {a : Option Addr} {n c : Nat} {zs : List Int} (h : Lies J w (.slice a n c) (zs.map (Value.int .i64))) (hn : zs.length = n) (k : Nat) (hk : k ≤ n) (h0 : a ≠ none) : Lies J w (.slice a k c) ((zs.take k).map (Value.int .i64)) := by
  rcases h with ⟨h1, _⟩ | ⟨x, cap, h1, hJ, hc⟩
  · cases h1
    exact absurd rfl h0
  · cases h1
    refine .inr ⟨x, c, by rw [List.length_map, List.length_take, Nat.min_eq_left (by omega)], fun hne => hJ fun e => hne ?_, fun i u hu => hc i u ?_⟩
    · have : zs = [] := by simpa using e
      rw [this]
      simp
    · rw [List.map_take, List.getElem?_take] at hu
      split at hu
      · exact hu
      · cases hu

set_option maxRecDepth 100000 in
set_option maxHeartbeats 4000000 in
theorem flip_any {J K : Nat → Prop} (w : World) (v : Value) (b : Option Addr) (d : Nat) (x l : List Int) (hv : Lies J w v (x.map (Value.int .i64))) (hl : Lies K w (.slice b l.length d) (l.map (Value.int .i64))) (hcap : l.length ≤ d) (hx : Bin x) (hxl : x.length ≤ 100000) (hll : l.length ≤ 100000) :
    Calls Try.prog 12 #[v, .slice b l.length d] w fun e w' => ∃ v', e = .returned (.tuple #[v', .bool (flipI x l).2]) ∧ New w (flipI x l).1 v' w' := by
  obtain ⟨a, c, rfl, _⟩ := hv.slice
  simp only [List.length_map] at hv ⊢
  have HC : Hid (∀ W, Chg no w W → Calls Try.prog 27 #[.slice a x.length c] W fun e w' => ∃ v', e = .returned v' ∧ New W x v' w') := fun W k => copyInts_any _ x _ W (hv.chg k (fun _ _ h => h)) (by omega)
  have HL : Hid (∀ W, Chg no w W → Lies (fun _ => True) W (.slice b l.length d) (l.map (Value.int .i64))) := fun W k => (hl.chg k (fun _ _ h => h)).mono (fun _ _ => trivial)
  obtain ⟨m, hm⟩ : ∃ m, x.length = m := ⟨_, rfl⟩
  obtain ⟨n, hn⟩ : ∃ n, l.length = n := ⟨_, rfl⟩
  have HX : Hid (x.length = m) := hm
  have HN : Hid (l.length = n) := hn
  have HB : Hid (Bin x) := hx
  obtain ⟨ans, hans⟩ : ∃ r, flipI x l = r := ⟨_, rfl⟩
  have HA : Hid (flipI x l = ans) := hans
  simp only [hm, hn, hans] at HC HL hxl hll hcap ⊢
  have hmi : (m : Int) ≤ 100000 := by omega
  have hni : (n : Int) ≤ 100000 := by omega
  clear hm hn hans hv hl hx
  go_enter Try.func12, Try.ntmps12
  go_wp2_with fail
  refine (HC.out w (Chg.refl no w)).mono ?_
  rintro e w1 ⟨v1, rfl, N1⟩
  obtain ⟨xa, xc, rfl⟩ := N1.shape
  rw [HX.out] at N1 ⊢
  have HN1 : Hid (New w x (.slice xa m xc) w1) := N1
  clear N1
  go_wp2_with fail
  go_loopw [7] (fun i wr => ∃ j : Nat, j ≤ n ∧ i = .int .i64 (j : Int) ∧ okF m (l.take j) = true ∧ New w (flipX x (l.take j)) (.slice xa m xc) wr) (fun i _ => n - (intOf i).toNat)
  case atStart => exact ⟨0, by omega, rfl, rfl, by rw [List.take_zero, flipX_nil]; exact HN1.out⟩
  case round =>
    obtain ⟨j, hj, rfl, hok, hN⟩ := hrel
    have HO : Hid (okF m (l.take j) = true) := hok
    have HNj : Hid (New w (flipX x (l.take j)) (.slice xa m xc) wr) := hN
    clear hok hN
    by_cases hjn : j < n
    · have hji : (j : Int) < n := by omega
      have hlw := HL.out wr HNj.out.2
      obtain ⟨y, rfl, hy⟩ := lies_at hlw j (by rw [HN.out]; exact hjn)
      obtain ⟨u, hu⟩ : ∃ u, l.getD j 0 = u := ⟨_, rfl⟩
      have HU : Hid (l.getD j 0 = u) := hu
      rw [hu] at hy
      have HT : Hid (l.take (j + 1) = l.take j ++ [u]) := by show _ = _; rw [take_next l 0 j (by rw [HN.out]; exact hjn), hu]
      clear hu
      by_cases hbad : u < 0 ∨ (m : Int) ≤ u
      · have e : ans = (x, false) := by
          rw [← HA.out]
          unfold flipI
          have : okF x.length l = false := by
            unfold okF
            rw [List.all_eq_false]
            refine ⟨u, ?_, by rw [HX.out]; simp; omega⟩
            rw [← HU.out]
            exact getD_mem (by rw [HN.out]; exact hjn)
          rw [if_neg (by rw [this]; decide)]
        subst e
        have HCw := HC.out wr HNj.out.2
        have hNw := HNj.out.2
        clear HA hlw
        rcases hbad with hb | hb
        · go_wp2_with fail
          refine HCw.mono ?_
          rintro e w2 ⟨v2, rfl, N2⟩
          go_wp2
          go_ret2
          exact ⟨_, rfl, ⟨owns_base N2.1 hNw.size, hNw.then N2.2⟩⟩
        · have hb0 : ¬ u < 0 := by omega
          go_wp2_with fail
          refine HCw.mono ?_
          rintro e w2 ⟨v2, rfl, N2⟩
          go_wp2
          go_ret2
          exact ⟨_, rfl, ⟨owns_base N2.1 hNw.size, hNw.then N2.2⟩⟩
      · obtain ⟨k, rfl⟩ : ∃ k : Nat, u = k := ⟨u.toNat, by omega⟩
        have hkm : k < m := by omega
        have hkmi : (k : Int) < m := by omega
        have hk0 : ¬ (k : Int) < 0 := by omega
        have hk1 : ¬ (m : Int) ≤ k := by omega
        have HO2 : Hid (okF m (l.take (j + 1)) = true) := by
          show _ = _
          rw [HT.out]
          have := HO.out
          unfold okF at this ⊢
          rw [List.all_append, this]
          simp
          omega
        have hcj : (j : Int) ≤ d := by omega
        have hfr := lies_front hlw HN.out j hj (by simp)
        cases hc : (l.take j).contains (k : Int)
        · have HQ : Hid (∀ q, Calls Try.prog 23 #[.slice (some y) j d, .int .i64 k] (wr.drewN q) fun e w' => e = .returned (.bool false) ∧ w' = wr.drewN q) := fun q => by
            have := has_any (wr.drewN q) _ _ (k : Int) (hfr.chg ((Chg.refl no wr).drewN q) (fun _ _ h => h)) (by rw [List.length_take]; omega)
            rw [hc] at this
            exact this
          obtain ⟨X, hX⟩ : ∃ X, flipX x (l.take j) = X := ⟨_, rfl⟩
          have hXl : X.length = m := by rw [← hX, flipX_len, HX.out]
          have hbx : X.getD k 0 = 0 ∨ X.getD k 0 = 1 := by
            rw [← hX]
            exact flipX_bin HB.out _ _ (getD_mem (by rw [flipX_len, HX.out]; exact hkm))
          have HS : Hid (flipX x (l.take (j + 1)) = X.set k (1 - X.getD k 0)) := by
            show _ = _
            rw [HT.out, flipX_one x _ k (by rw [HX.out]; exact hkm) hc, hX]
          rw [hX] at HNj
          have HXl : Hid (X.length = m) := hXl
          have o := HNj.out.1
          rw [hXl] at o
          obtain ⟨g, rfl, _, o2, o3⟩ := owns_at (k := k) (u := .int .i64 (X.getD k 0)) o (by rw [List.getElem?_map, List.getD_eq_getElem?_getD, List.getElem?_eq_getElem (by rw [hXl]; exact hkm)]; rfl)
          obtain ⟨B, hB⟩ : ∃ B, X.getD k 0 = B := ⟨_, rfl⟩
          rw [hB] at hbx o2 HS
          clear hlw hfr hc hX hXl hB
          go_wp2_with fail
          go_quiet ((go_at_call 23; exact Calls.quiet_of_same (HQ.out _)))
          go_wp2_with fail
          have hbi : 1 - B = 0 ∨ 1 - B = 1 := by omega
          go_region
          go_wp2
          go_roundw
          case rel => exact ⟨j + 1, by omega, by go_num, HO2.out, by rw [HS.out]; exact (HNj.out.drewN _).set _⟩
          case measure => simp [intOf]; omega
        · have HQ : Hid (∀ q, Calls Try.prog 23 #[.slice (some y) j d, .int .i64 k] (wr.drewN q) fun e w' => e = .returned (.bool true) ∧ w' = wr.drewN q) := fun q => by
            have := has_any (wr.drewN q) _ _ (k : Int) (hfr.chg ((Chg.refl no wr).drewN q) (fun _ _ h => h)) (by rw [List.length_take]; omega)
            rw [hc] at this
            exact this
          have HS : Hid (flipX x (l.take (j + 1)) = flipX x (l.take j)) := by
            show _ = _
            rw [HT.out, flipX_again x _ _ hc]
          clear hlw hfr hc
          go_wp2_with fail
          go_quiet ((go_at_call 23; exact Calls.quiet_of_same (HQ.out _)))
          go_wp2
          go_roundw
          case rel => exact ⟨j + 1, by omega, by go_num, HO2.out, by rw [HS.out]; exact HNj.out.drewN _⟩
          case measure => simp [intOf]; omega
    · obtain rfl : j = n := by omega
      have hji : ¬ ((j : Int) < j) := by omega
      have e : ans = (flipX x l, true) := by
        rw [← HA.out]
        unfold flipI
        have := HO.out
        rw [← HN.out, List.take_length] at this
        rw [HX.out, if_pos this]
      subst e
      have e2 : l.take j = l := by rw [← HN.out, List.take_length]
      rw [e2] at HNj
      clear e2
      go_wp2
      go_ret2
      exact ⟨_, rfl, HNj.out⟩

end Go.Proofs.Ytallblnkgmioeaa.st
