/- Contracts of the document's Union and of first. -/
import Derived.Test.YtkaohjlnlgennaaUni
namespace Go.Proofs.Ytkaohjlnlgennaa.st
open Go.ChangeShapes Go.WideShapes Go.ChangeAt Go.RowKit Go.Proofs.Ytkaohjlnlgennaa.hp Go.Proofs.Ytkaohjlnlgennaa.tm
set_option linter.unusedVariables false

theorem any_take {p : Int → Bool} {ls : List Int} {j : Nat} (hj : j < ls.length) (h1 : (ls.take j).any p = false) (h2 : p (ls.getD j 0) = false) : (ls.take (j + 1)).any p = false := by
  rw [take_snoc ls j hj, List.any_append, h1]
  simpa using h2

theorem any_at {p : Int → Bool} {ls : List Int} {j : Nat} (hj : j < ls.length) (h2 : p (ls.getD j 0) = true) : ls.any p = true := by
  rw [List.any_eq_true]
  refine ⟨ls.getD j 0, ?_, h2⟩
  rw [List.getD_eq_getElem?_getD, List.getElem?_eq_getElem hj]
  exact List.getElem_mem hj

theorem bks_bounds (h : Int) : 0 ≤ bks h ∧ bks h ≤ 127 := by
  cases hk : okH h
  · rw [bks_badH hk]
    omega
  · have := (okH_iff h).1 hk
    obtain ⟨H, rfl⟩ : ∃ H : Nat, h = H := ⟨h.toNat, by omega⟩
    rw [bks_of (by omega)]
    have := pow_le6 H (by omega)
    omega

set_option maxHeartbeats 4000000 in
set_option maxRecDepth 100000 in
theorem runion_any {J : Nat → Prop} (w : World) (h : Int) (v : Value) (ls : List Int) (hv : Lies J w v (ls.map (Value.int .i64))) (hl : ls.length ≤ 100000) :
    Calls Try.prog 32 #[.int .i64 h, v] w fun e w' => ∃ v', e = .returned v' ∧ New w (uni h ls) v' w' := by
  obtain ⟨j0, hj, hy0, hy1, hy2⟩ := info_parts info3
  have HBK : Hid (∀ w, Calls Try.prog 52 #[.int .i64 h] w fun e w' => e = .returned (.int .i64 (bks h)) ∧ w' = w) := fun w => rbuckets_any w h
  have hbb := bks_bounds h
  obtain ⟨N, hN⟩ : ∃ N : Nat, bks h = N := ⟨(bks h).toNat, by omega⟩
  have HUY : Hid (ls.all (okL h) = true → uni h ls = rise (wys h ls) N) := by
    intro e
    rw [uni_yes e, hN, Int.toNat_natCast]
  rw [hN] at HBK hbb
  have HUN : Hid (∀ j, j < ls.length → okL h (ls.getD j 0) = false → uni h ls = []) := fun j hj e => uni_no (not_all hj e)
  have HIS : Hid (∀ (w : World) (l : Int), Calls Try.prog 36 #[.int .i64 h, .int .i64 l] w fun e w' => e = .returned (.bool (okL h l)) ∧ w' = w) := fun w l => rmayLeaf_any w h l
  have HON : Hid (∀ (w : World) (b l : Int), Calls Try.prog 34 #[.int .i64 h, .int .i64 b, .int .i64 l] w fun e w' => e = .returned (.bool (onI h b l)) ∧ Chg no w w') := fun w b l => ron_any w h b l
  have HWH : Hid (∀ b : Int, (wys h ls).contains b = ls.any fun l => onI h b l) := fun b => wys_has h ls b
  have n1 : N ≤ 127 := by omega
  have n1i : (N : Int) ≤ 127 := by omega
  obtain ⟨a, c, rfl, _⟩ := hv.slice
  simp only [List.length_map] at hv ⊢
  have hli : (ls.length : Int) ≤ 100000 := by omega
  have HV : Hid (∀ w', Chg no w w' → Lies J w' (.slice a ls.length c) (ls.map (Value.int .i64))) := fun w' k => hv.chg k (fun _ _ h => h)
  clear hv hN hbb
  go_enter Try.func32, Try.ntmps32
  go_wp2_with fail
  go_loopw [5] (fun i wr => ∃ j : Nat, j ≤ ls.length ∧ i = .int .i64 (j : Int) ∧ (ls.take j).all (okL h) = true ∧ w = wr) (fun i _ => ls.length - (intOf i).toNat)
  case atStart => exact ⟨0, by omega, rfl, rfl, rfl⟩
  case round =>
    obtain ⟨j, hjl, rfl, hall, rfl⟩ := hrel
    by_cases hjn : j < ls.length
    · have hji : (j : Int) < ls.length := by omega
      obtain ⟨x, rfl, c1⟩ := lies_at (HV.out w (Chg.refl _ _)) j hjn
      have HAL : Hid (okL h (ls.getD j 0) = true → (ls.take (j + 1)).all (okL h) = true) := fun e => all_take hjn hall e
      have HNO := HUN.out j hjn
      obtain ⟨U, hU⟩ : ∃ U : Int, ls.getD j 0 = U := ⟨_, rfl⟩
      rw [hU] at c1 HAL HNO
      have HIU := HIS.out w U
      clear hU hall
      cases kU : okL h U
      · rw [kU] at HIU
        have HUE : Hid (uni h ls = []) := HNO kU
        clear HNO kU HAL
        go_wp2_with fail
        refine HIU.mono ?_
        rintro e w3 ⟨rfl, rfl⟩
        go_wp2
        go_ret
        refine ⟨_, rfl, ?_⟩
        rw [HUE.out]
        exact New.nil _
      · rw [kU] at HIU
        have HA2 : Hid ((ls.take (j + 1)).all (okL h) = true) := HAL.out kU
        clear HNO kU HAL
        go_wp2_with fail
        refine HIU.mono ?_
        rintro e w3 ⟨rfl, rfl⟩
        go_wp2
        go_roundw
        case rel => exact ⟨j + 1, by omega, by go_num, HA2.out, by first | rfl | trivial⟩
        case measure => simp [intOf]; omega
    · obtain rfl : j = ls.length := by omega
      have hji : (ls.length : Int) ≤ (ls.length : Int) := by omega
      rw [List.take_length] at hall
      have HUE : Hid (uni h ls = rise (wys h ls) N) := HUY.out hall
      obtain ⟨S, hS⟩ : ∃ S, wys h ls = S := ⟨_, rfl⟩
      rw [hS] at HUE HWH
      have HNN : Hid (New w (rise S 0) (.slice none 0 0) w) := New.nil w
      clear hS hall HUY HUN HIS
      go_wp2_with fail
      go_loopw [6, 7] (fun vb i wr => ∃ b : Nat, b ≤ N ∧ i = .int .i64 (b : Int) ∧ New w (rise S b) vb wr) (fun _ i _ => N - (intOf i).toNat)
      case atStart => exact ⟨0, by omega, rfl, HNN.out⟩
      case round =>
        clear HNN
        obtain ⟨b, hb, rfl, hN⟩ := hrel
        obtain ⟨xa, xc, rfl⟩ := hN.shape
        by_cases hbn : b < N
        · have hbi : (b : Int) < N := by omega
          have HR : Hid (rise S (b + 1) = if S.contains (b : Int) = true then rise S b ++ [(b : Int)] else rise S b) := rise_succ S b
          have hrl := rise_length S b
          have HW := HWH.out (b : Int)
          obtain ⟨R, hR⟩ : ∃ R, rise S b = R := ⟨_, rfl⟩
          rw [hR] at HR hN hrl ⊢
          rw [HW] at HR
          have HN2 : Hid (New w R (.slice xa R.length xc) wr) := hN
          clear hR hN HW
          obtain ⟨w5, hw5⟩ : ∃ w5, wr = w5 := ⟨_, rfl⟩
          rw [hw5] at HN2 ⊢
          clear hw5
          go_wp2_with fail
          refine (HBK.out w5).mono ?_
          rintro e w6 ⟨rfl, rfl⟩
          go_wp2_with fail
          go_loopw [6, 8] (fun vb i wr => ∃ j : Nat, vb = .slice xa R.length xc ∧ j ≤ ls.length ∧ i = .int .i64 (j : Int) ∧ ((ls.take j).any fun l => onI h (b : Int) l) = false ∧ New w R (.slice xa R.length xc) wr) (fun _ i _ => ls.length - (intOf i).toNat)
          case atStart => exact ⟨0, rfl, by omega, rfl, rfl, HN2.out⟩
          case round =>
            clear HN2
            obtain ⟨j, rfl, hjl2, rfl, hany, hN⟩ := hrel
            by_cases hjn2 : j < ls.length
            · have hji2 : (j : Int) < ls.length := by omega
              obtain ⟨x, hx, c1⟩ := lies_at (HV.out wr hN.2) j hjn2
              have HAN : Hid (onI h b (ls.getD j 0) = false → ((ls.take (j + 1)).any fun l => onI h (b : Int) l) = false) := fun e => any_take hjn2 hany e
              have HAT : Hid (onI h b (ls.getD j 0) = true → (ls.any fun l => onI h (b : Int) l) = true) := fun e => any_at (p := fun l => onI h (b : Int) l) hjn2 e
              obtain ⟨U, hU⟩ : ∃ U : Int, ls.getD j 0 = U := ⟨_, rfl⟩
              rw [hU] at c1 HAN HAT
              have HOU := HON.out wr b U
              have HN3 : Hid (New w R (.slice xa R.length xc) wr) := hN
              subst hx
              clear hU hany hN
              cases kU : onI h b U
              · rw [kU] at HOU
                have HA2 : Hid (((ls.take (j + 1)).any fun l => onI h (b : Int) l) = false) := HAN.out kU
                clear HAN HAT kU
                go_wp2_with fail
                refine HOU.mono ?_
                rintro e w7 ⟨rfl, k7⟩
                have HN4 : Hid (New w R (.slice xa R.length xc) w7) := HN3.out.chg k7
                clear HN3 k7 HOU c1
                go_wp2
                go_roundw
                case rel => exact ⟨j + 1, rfl, by omega, by go_num, HA2.out, HN4.out⟩
                case measure => simp [intOf]; omega
              · rw [kU] at HOU
                have HE : Hid (R ++ [(b : Int)] = rise S (b + 1)) := by rw [HR.out, HAT.out kU]; rfl
                clear HAN HAT kU
                go_wp2_with fail
                refine HOU.mono ?_
                rintro e w7 ⟨rfl, k7⟩
                have HN4 : Hid (New w R (.slice xa R.length xc) w7) := HN3.out.chg k7
                have HL2 : Hid (Lies (fun _ => True) (w7.alloc (.cells #[.int .i64 (b : Int)] 3)) (.slice (some ⟨w7.heap.size, 0, none⟩) 1 1) ([(b : Int)].map (Value.int .i64))) := (lies_block (zs := [.int .i64 (b : Int)]) (heap_alloc_new w7 _) 1).mono (fun _ _ => trivial)
                clear HN3 k7 HOU c1
                go_wp2_with (at_builtin; refine wpList_append_grew rfl _ _ 22 rfl 3 j0 (.int .i64 0) 8 Try.underlying22 hj hy0 hy1 hy2 rfl (.slice xa R.length xc) R.length (R.map (Value.int .i64)) rfl (owns_base (HN4.out.chg ((Chg.refl no w7).alloc _)).1 (Nat.zero_le _)) (fun _ => True) (.slice (some ⟨w7.heap.size, 0, none⟩) 1 1) ([(b : Int)].map (Value.int .i64)) rfl HL2.out (ints_oneCell _ _) (by simp; unfold maxLen; omega) (by simp; omega) ?_; intro v8 w8 G8)
                have hN8 := (HN4.out.chg ((Chg.refl no w7).alloc _)).grew G8 HE.out
                obtain ⟨a8, c8, rfl⟩ := hN8.shape
                clear G8 HN4 HL2
                go_wp2
                go_roundw
                case rel => exact ⟨b + 1, by omega, by go_num, hN8⟩
                case measure => simp [intOf]; omega
            · obtain rfl : j = ls.length := by omega
              have hji2 : (ls.length : Int) ≤ (ls.length : Int) := by omega
              rw [List.take_length] at hany
              have hN8 : New w (rise S (b + 1)) (.slice xa R.length xc) wr := by
                rw [HR.out, hany]
                exact hN
              clear hN
              go_wp2
              go_roundw
              case rel => exact ⟨b + 1, by omega, by go_num, hN8⟩
              case measure => simp [intOf]; omega
        · obtain rfl : b = N := by omega
          have hbi : (b : Int) ≤ (b : Int) := by omega
          go_wp2_with fail
          refine (HBK.out wr).mono ?_
          rintro e w6 ⟨rfl, rfl⟩
          go_wp2
          go_ret
          refine ⟨_, rfl, ?_⟩
          rw [HUE.out]
          exact hN

end Go.Proofs.Ytkaohjlnlgennaa.st
