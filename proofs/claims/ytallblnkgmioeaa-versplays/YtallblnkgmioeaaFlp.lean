/- Flip of the landed code. -/
import Derived.Test.YtallblnkgmioeaaCon
namespace Go.Proofs.Ytallblnkgmioeaa.st
open Go.ChangeShapes Go.WideShapes Go.ChangeAt Go.RowKit Go.Proofs.Ytallblnkgmioeaa.hp Go.Proofs.Ytallblnkgmioeaa.bt
set_option linter.unusedVariables false
set_option linter.unusedSimpArgs false

/-- The first i bytes of the one, behind them the other's. -/
def mix (N : Nat) (a b : List Int) (i : Nat) : List Int := (List.range N).map fun k => if k < i then a.getD k 0 else b.getD k 0

theorem mix_len (N : Nat) (a b : List Int) (i : Nat) : (mix N a b i).length = N := by simp [mix]

theorem mix_get (N : Nat) (a b : List Int) (i k : Nat) (hk : k < N) : (mix N a b i).getD k 0 = if k < i then a.getD k 0 else b.getD k 0 := by
  unfold mix
  rw [List.getD_eq_getElem?_getD, List.getElem?_map, List.getElem?_range hk]
  rfl

theorem mix_zero (N : Nat) (a b : List Int) (h : b.length = N) : mix N a b 0 = b := ext_getD (by rw [mix_len, h]) fun k hk => by
  rw [mix_len] at hk
  rw [mix_get _ _ _ _ _ hk, if_neg (by omega)]

theorem mix_all (N : Nat) (a b : List Int) (h : a.length = N) : mix N a b N = a := ext_getD (by rw [mix_len, h]) fun k hk => by
  rw [mix_len] at hk
  rw [mix_get _ _ _ _ _ hk, if_pos hk]

theorem mix_next (N : Nat) (a b : List Int) (i : Nat) (hi : i < N) : mix N a b (i + 1) = (mix N a b i).set i (a.getD i 0) := ext_getD (by rw [List.length_set, mix_len, mix_len]) fun k hk => by
  rw [mix_len] at hk
  rw [mix_get _ _ _ _ _ hk, List.getD_eq_getElem?_getD (l := List.set _ _ _), List.getElem?_set]
  by_cases e : i = k
  · subst e
    rw [if_pos (by omega), if_pos rfl, if_pos (by rw [mix_len]; exact hi)]
    rfl
  · rw [if_neg e, ← List.getD_eq_getElem?_getD, mix_get _ _ _ _ _ hk]
    by_cases h : k < i
    · rw [if_pos h, if_pos (by omega)]
    · rw [if_neg h, if_neg (by omega)]

set_option maxRecDepth 100000 in
set_option maxHeartbeats 4000000 in
theorem oflip_any {F K : Nat → Prop} {w : World} {v : Value} {x l : List Int} {b : Option Addr} {d : Nat} (h : Bt F w v x) (hl : Lies K w (.slice b l.length d) (l.map (Value.int .i64))) (hK : ∀ k, K k → ¬ F k) (hd : l.length ≤ d) (hll : l.length ≤ 100000) :
    Calls Try.prog 13 #[v, .slice b l.length d] w fun e w' => e = .returned (.bool (okF x.length l)) ∧ Bt F w' v (flipI x l).1 ∧ Chg F w w' := by
  obtain ⟨i0, hi0, hz0, hz1, hz2⟩ := info_parts info5
  have HBt : Hid (Bt F w v x) := h
  obtain ⟨p, g, c, rfl, o, hF, hx, h1, h2⟩ := h
  have hgs := o.size h1
  have HLl : Hid (∀ W, Chg no w W → Lies K W (.slice b l.length d) (l.map (Value.int .i64))) := fun W k => hl.chg k (fun _ _ h => h)
  have HO : Hid (Ob p g c w x.length (bytesOf x)) := o
  have HF : Hid (∀ k, F k ↔ (k = p ∨ k = g)) := hF
  have HX : Hid (Bin x) := hx
  obtain ⟨n, hn⟩ : ∃ n, x.length = n := ⟨_, rfl⟩
  have HNx : Hid (x.length = n) := hn
  obtain ⟨m, hm⟩ : ∃ m, l.length = m := ⟨_, rfl⟩
  have HM : Hid (l.length = m) := hm
  obtain ⟨N, hN⟩ : ∃ N, (n + 7) / 8 = N := ⟨_, rfl⟩
  have HNN : Hid ((n + 7) / 8 = N) := hN
  obtain ⟨Z, hZ⟩ : ∃ Z, List.replicate n (0 : Int) = Z := ⟨_, rfl⟩
  have HZ : Hid (List.replicate n (0 : Int) = Z) := hZ
  have HGS : Hid (g < w.heap.size) := hgs
  obtain ⟨ans, hans⟩ : ∃ r, flipI x l = r := ⟨_, rfl⟩
  have HA : Hid (flipI x l = ans) := hans
  obtain ⟨okv, hok⟩ : ∃ r, okF n l = r := ⟨_, rfl⟩
  have HOK : Hid (okF n l = okv) := hok
  obtain ⟨c0, c1, _⟩ := o.cells
  simp only [hn, hm, hN, hans, hok] at c0 c1 HLl HO h1 h2 hll hd ⊢
  have hmi : (m : Int) ≤ 100000 := by omega
  have hni : (n : Int) ≤ 127 := by omega
  have hNl : N ≤ 100 := by omega
  have hNi : (N : Int) ≤ 100 := by omega
  clear hn hm hN hans hok hl hK hx hF o hgs hZ
  go_enter Try.func13, Try.ntmps13
  go_wp2_with (at_make; refine wpList_make_full _ rfl _ _ 36 rfl w.heap.size 5 i0 (.int .u8 0) 1 Try.underlying36 hi0 hz0 hz1 .i64 .i64 N N N rfl rfl rfl rfl ?c1 ?c2 ?c3 ?_)
  case c1 => rw [hz2]; omega
  case c2 => unfold maxLen; omega
  case c3 => omega
  intro w2 hown hg
  rw [toList_madeCells_one] at hown
  have HN2 : Hid (NewB w (bytesOf (flipX Z (l.take 0))) (.slice (some ⟨w.heap.size, 0, none⟩) N N) w2) := by
    have e : bytesOf (flipX Z (l.take 0)) = List.replicate N 0 := by rw [List.take_zero, flipX_nil, ← HZ.out, bytesOf_zeros, HNN.out]
    rw [e]
    refine ⟨?_, (Chg.refl no w).grown hg (by simp)⟩
    rw [List.length_replicate, List.map_replicate]
    exact hown
  obtain ⟨q, hq⟩ : ∃ q, w.heap.size = q := ⟨_, rfl⟩
  have HQ : Hid (w.heap.size = q) := hq
  rw [hq] at HN2 ⊢
  clear hown hg hq
  go_wp2_with fail
  go_loopw [20] (fun iv wr => ∃ j : Nat, j ≤ m ∧ iv = .int .i64 (j : Int) ∧ okF n (l.take j) = true ∧ NewB w (bytesOf (flipX Z (l.take j))) (.slice (some ⟨q, 0, none⟩) N N) wr) (fun iv _ => m - (intOf iv).toNat)
  case atStart => exact ⟨0, by omega, rfl, rfl, HN2.out⟩
  case round =>
    clear HN2
    obtain ⟨j, hj, rfl, hok, hN⟩ := hrel
    have HOj : Hid (okF n (l.take j) = true) := hok
    have HNj : Hid (NewB w (bytesOf (flipX Z (l.take j))) (.slice (some ⟨q, 0, none⟩) N N) wr) := hN
    clear hok hN
    by_cases hjm : j < m
    · have hji : (j : Int) < m := by omega
      obtain ⟨y, rfl, hy⟩ := lies_at (HLl.out wr HNj.out.2) j (by rw [HM.out]; exact hjm)
      obtain ⟨u, hu⟩ : ∃ u, l.getD j 0 = u := ⟨_, rfl⟩
      rw [hu] at hy
      have HUm : Hid (u ∈ l) := by show _ ∈ _; rw [← hu]; exact getD_mem (by rw [HM.out]; exact hjm)
      have HT : Hid (l.take (j + 1) = l.take j ++ [u]) := by show _ = _; rw [take_next l 0 j (by rw [HM.out]; exact hjm), hu]
      have oW := HO.out.later HNj.out.2
      clear hu
      by_cases hb0 : u < 0
      · have H := has_no wr (.pointer (some ⟨p, 0, none⟩)) u hb0
        clear oW
        go_wp2_with fail
        refine H.mono ?_
        rintro e w3 ⟨rfl, hw⟩
        subst hw
        go_wp2
        go_ret
        have hno : okF n l = false := by
          unfold okF
          rw [List.all_eq_false]
          exact ⟨u, HUm.out, by simp; omega⟩
        have e2 : ans = (x, false) := by
          rw [← HA.out]
          unfold flipI
          rw [HNx.out, if_neg (by rw [hno]; decide)]
        rw [e2, ← HOK.out, hno]
        exact ⟨rfl, HBt.out.keep HNj.out.2 (fun _ _ h => h), HNj.out.2.of_no F⟩
      · have H := has_bit oW u (by omega)
        clear oW
        by_cases hb1 : u < n
        · rw [decide_eq_true hb1] at H
          obtain ⟨k, rfl⟩ : ∃ k : Nat, u = k := ⟨u.toNat, by omega⟩
          have hkn : k < n := by omega
          have HO2 : Hid (okF n (l.take (j + 1)) = true) := by
            show _ = _
            rw [HT.out]
            have := HOj.out
            unfold okF at this ⊢
            rw [List.all_append, this]
            simp
            omega
          have hP := fun W => place_any W k (by omega)
          have hor := bytes_or n (l.take j) k hkn
          rw [HZ.out, ← HT.out] at hor
          obtain ⟨t, ht⟩ : ∃ t, k / 8 = t := ⟨_, rfl⟩
          obtain ⟨M, hM⟩ : ∃ M : Int, 2 ^ (k % 8) = M := ⟨_, rfl⟩
          simp only [ht, hM] at hP hor
          have htN : t < N := by have := HNN.out; omega
          have htNi : (t : Int) < N := by omega
          have hbl : (bytesOf (flipX Z (l.take j))).length = N := by rw [bytesOf_len, flipX_len, ← HZ.out, List.length_replicate, HNN.out]
          obtain ⟨T, hT⟩ : ∃ T, bytesOf (flipX Z (l.take j)) = T := ⟨_, rfl⟩
          rw [hT] at hbl hor HNj
          obtain ⟨B, hB⟩ : ∃ B, T.getD t 0 = B := ⟨_, rfl⟩
          rw [hB] at hor
          have o := HNj.out.1
          rw [hbl] at o
          obtain ⟨g', e, _, o2, o3⟩ := owns_at (k := t) (u := .int .u8 B) o (by rw [List.getElem?_map, ← hB, List.getD_eq_getElem?_getD, List.getElem?_eq_getElem (by rw [hbl]; exact htN)]; rfl)
          cases e
          have HOR : Hid (bytesOf (flipX Z (l.take (j + 1))) = T.set t (bits .or .u8 B M)) := hor
          clear hor hT hbl o ht hM hB
          go_wp2_with fail
          refine H.mono ?_
          rintro e w3 ⟨rfl, hw⟩
          subst hw
          go_wp2_with fail
          refine (hP _).mono ?_
          rintro e w4 ⟨rfl, z, rfl⟩
          go_wp2
          go_roundw
          case rel => exact ⟨j + 1, by omega, by go_num, HO2.out, by rw [HOR.out]; exact (HNj.out.drewN _).set _⟩
          case measure => simp [intOf]; omega
        · rw [decide_eq_false hb1] at H
          go_wp2_with fail
          refine H.mono ?_
          rintro e w3 ⟨rfl, hw⟩
          subst hw
          go_wp2
          go_ret
          have hno : okF n l = false := by
            unfold okF
            rw [List.all_eq_false]
            exact ⟨u, HUm.out, by simp; omega⟩
          have e2 : ans = (x, false) := by
            rw [← HA.out]
            unfold flipI
            rw [HNx.out, if_neg (by rw [hno]; decide)]
          rw [e2, ← HOK.out, hno]
          exact ⟨rfl, HBt.out.keep HNj.out.2 (fun _ _ h => h), HNj.out.2.of_no F⟩
    · obtain rfl : j = m := by omega
      have hji : ¬ ((j : Int) < j) := by omega
      have hall : okF n l = true := by
        have := HOj.out
        rw [take_all l j HM.out] at this
        exact this
      have e2 : ans = (flipX x l, true) := by
        rw [← HA.out]
        unfold flipI
        rw [HNx.out, if_pos hall]
      have e3 : okv = true := by rw [← HOK.out, hall]
      subst e2 e3
      rw [take_all l j HM.out] at HNj
      have hbl : (bytesOf (flipX Z l)).length = N := by rw [bytesOf_len, flipX_len, ← HZ.out, List.length_replicate, HNN.out]
      have hx2 : ∀ i, i < N → (bytesOf (flipX x l)).getD i 0 = bits .xor .u8 ((bytesOf x).getD i 0) ((bytesOf (flipX Z l)).getD i 0) := fun i hi => by
        have := bytes_xor x l HX.out i (by rw [HNx.out, HNN.out]; exact hi)
        rw [HNx.out, HZ.out] at this
        exact this
      obtain ⟨T, hT⟩ : ∃ T, bytesOf (flipX Z l) = T := ⟨_, rfl⟩
      rw [hT] at hbl HNj
      simp only [hT] at hx2
      have HTl : Hid (T.length = N) := hbl
      have HX2 : Hid (∀ i, i < N → (bytesOf (flipX x l)).getD i 0 = bits .xor .u8 ((bytesOf x).getD i 0) (T.getD i 0)) := hx2
      have hown := HNj.out.1
      rw [hbl] at hown
      have HOW : Hid (wr.ownsRow w.heap.size 5 1 (.slice (some ⟨q, 0, none⟩) N N) N (T.map (Value.int .u8))) := hown
      have HOw : Hid (Ob p g c wr n (bytesOf x)) := HO.out.later HNj.out.2
      have HKw : Hid (Chg no w wr) := HNj.out.2
      have HQg : Hid (q ≠ g) := by show _ ≠ _; have h1 := HQ.out; have h2 := HGS.out; omega
      have hblx : (bytesOf x).length = N := by rw [bytesOf_len, HNx.out, HNN.out]
      have hbly : (bytesOf (flipX x l)).length = N := by rw [bytesOf_len, flipX_len, HNx.out, HNN.out]
      have HBx : Hid ((bytesOf x).length = N) := hblx
      have HBy : Hid ((bytesOf (flipX x l)).length = N) := hbly
      clear HNj hbl hx2 hT hown HLl HBt HO hall hblx hbly HOj
      rename World => ws
      go_wp2_with fail
      go_loopw [43] (fun iv wq => ∃ i : Nat, i ≤ N ∧ iv = .int .i64 (i : Int) ∧ Ob p g c wq n (mix N (bytesOf (flipX x l)) (bytesOf x) i) ∧ Chg (fun k => k = g) ws wq) (fun iv _ => N - (intOf iv).toNat)
      case atStart => exact ⟨0, by omega, rfl, by rw [mix_zero _ _ _ HBx.out]; exact HOw.out, Chg.refl _ _⟩
      case round =>
        obtain ⟨i, hi, rfl, hO, hC⟩ := hrel
        have HOi : Hid (Ob p g c wr n (mix N (bytesOf (flipX x l)) (bytesOf x) i)) := hO
        have HCi : Hid (Chg (fun k => k = g) ws wr) := hC
        obtain ⟨c0', c1', _⟩ := hO.cells
        rw [HNN.out] at c1'
        by_cases hiN : i < N
        · have hiNi : (i : Int) < N := by omega
          obtain ⟨a1, a2⟩ := hO.at i (by rw [HNN.out]; exact hiN)
          rw [mix_get _ _ _ _ _ hiN, if_neg (by omega)] at a1
          obtain ⟨g', e, _, o2, o3⟩ := owns_at (k := i) (u := .int .u8 (T.getD i 0)) (hC.owns HOW.out (fun k hk hkg => by cases hk; exact HQg.out hkg)) (by rw [List.getElem?_map, List.getD_eq_getElem?_getD, List.getElem?_eq_getElem (by rw [HTl.out]; exact hiN)]; rfl)
          cases e
          have hxi := HX2.out i hiN
          obtain ⟨A, hA⟩ : ∃ A, (bytesOf x).getD i 0 = A := ⟨_, rfl⟩
          obtain ⟨B, hB⟩ : ∃ B, T.getD i 0 = B := ⟨_, rfl⟩
          rw [hA, hB] at hxi
          rw [hA] at a1
          rw [hB] at o2
          have HNX : Hid (mix N (bytesOf (flipX x l)) (bytesOf x) (i + 1) = (mix N (bytesOf (flipX x l)) (bytesOf x) i).set i (bits .xor .u8 A B)) := by show _ = _; rw [mix_next _ _ _ _ hiN, hxi]
          clear hO hC hxi hA hB
          go_wp2
          go_roundw
          case rel => exact ⟨i + 1, by omega, by go_num, by rw [HNX.out]; exact HOi.out.set _ _, HCi.out.setCell _ _ (.inl rfl)⟩
          case measure => simp [intOf]; omega
        · obtain rfl : i = N := by omega
          have hiNi : ¬ ((i : Int) < i) := by omega
          have HE : Hid (Bt F wr (.pointer (some ⟨p, 0, none⟩)) (flipX x l)) := by
            rw [mix_all _ _ _ HBy.out] at hO
            refine ⟨p, g, c, rfl, ?_, HF.out, flipX_bin HX.out l, by rw [flipX_len, HNx.out]; exact h1, by rw [flipX_len, HNx.out]; exact h2⟩
            rw [flipX_len, HNx.out]
            exact hO
          have HE2 : Hid (Chg F w wr) := (HKw.out.of_no F).trans hC (fun k hk => .inl ((HF.out k).2 (.inr hk)))
          clear hO hC
          go_wp2
          go_ret
          exact ⟨rfl, HE.out, HE2.out⟩

end Go.Proofs.Ytallblnkgmioeaa.st
