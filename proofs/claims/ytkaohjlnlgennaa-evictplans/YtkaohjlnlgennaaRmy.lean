/- The contract of the document's MayPlan. -/
import Derived.Test.YtkaohjlnlgennaaPlz
namespace Go.Proofs.Ytkaohjlnlgennaa.st
open Go.ChangeShapes Go.WideShapes Go.ChangeAt Go.RowKit Go.Proofs.Ytkaohjlnlgennaa.hp Go.Proofs.Ytkaohjlnlgennaa.tm Go.Proofs.Ytkaohjlnlgennaa.ev
set_option linter.unusedVariables false
set_option linter.unusedSimpArgs false

theorem nodup_next {zs : List Int} {j : Nat} (hj : j < zs.length) (h1 : (zs.take j).Nodup) (h2 : ∀ k, k < j → zs.getD k 0 ≠ zs.getD j 0) : (zs.take (j + 1)).Nodup := by
  rw [take_next zs 0 j hj, List.nodup_append]
  refine ⟨h1, by simp, fun a ha b hb e => ?_⟩
  simp only [List.mem_singleton] at hb
  obtain ⟨k, hk, rfl⟩ := List.getElem_of_mem ha
  simp only [List.length_take] at hk
  refine h2 k (by omega) ?_
  rw [← hb, ← e, List.getElem_take, List.getD_eq_getElem?_getD, List.getElem?_eq_getElem (by omega)]
  rfl

theorem dup_not {zs : List Int} {k j : Nat} (hk : k < j) (hj : j < zs.length) (h : zs.getD k 0 = zs.getD j 0) : ¬ zs.Nodup := by
  intro hn
  rw [List.getD_eq_getElem?_getD, List.getD_eq_getElem?_getD, List.getElem?_eq_getElem hj, List.getElem?_eq_getElem (by omega)] at h
  have := (List.getElem_inj hn).1 h
  omega

theorem ids_len (its : List (Int × Int)) : (ids its).length = its.length := by simp [ids]

set_option maxHeartbeats 4000000 in
theorem rmayPlan_any {J K : Nat → Prop} (w : World) (h z : Int) (v iv : Value) (ls : List Int) (its : List (Int × Int)) (hv : Lies J w v (ls.map (Value.int .i64))) (hi : Lie K w iv its.length (its.flatMap f2)) (hl : ls.length ≤ 100000) (hil : its.length ≤ 100000) :
    Calls Try.prog 18 #[.int .i64 h, .int .i64 z, v, iv] w fun e w' => e = .returned (.bool (mayB h z ls its)) ∧ Chg no w w' := by
  have HM := rmay_any w h
  have HZ := rlength_any w z
  obtain ⟨a, c, rfl, _⟩ := hv.slice
  obtain ⟨b, d, rfl⟩ := hi.slice
  simp only [List.length_map] at hv ⊢
  have HI : Hid (∀ (W : World) (l : Int), Calls Try.prog 36 #[.int .i64 h, .int .i64 l] W fun e w' => e = .returned (.bool (okL h l)) ∧ w' = W) := fun W l => rmayLeaf_any W h l
  obtain ⟨n, hn⟩ : ∃ n, ls.length = n := ⟨_, rfl⟩
  obtain ⟨m, hm⟩ : ∃ m, its.length = m := ⟨_, rfl⟩
  have EN : Hid (ls.length = n) := hn
  have EM : Hid (its.length = m) := hm
  have EI : Hid ((ids its).length = m) := by show _ = _; rw [ids_len, hm]
  rw [hn] at hv hl ⊢
  rw [hm] at hi hil ⊢
  have HV : Hid (Lies J w (.slice a n c) (ls.map (Value.int .i64))) := hv
  have HT : Hid (Lie K w (.slice b m d) m (its.flatMap f2)) := hi
  have hni : (n : Int) ≤ 100000 := by omega
  have hmi : (m : Int) ≤ 100000 := by omega
  obtain ⟨ans, hans⟩ : ∃ x, mayB h z ls its = x := ⟨_, rfl⟩
  have HA : Hid (mayB h z ls its = ans) := hans
  rw [hans]
  clear hv hi hn hm hans hl hil
  cases hk : okH h
  · rw [hk] at HM
    have e : ans = false := by rw [← HA.out]; simp [mayB, mayE, hk]
    subst e
    clear hk HA HZ
    go_enter Try.func18, Try.ntmps18
    go_wp2_with fail
    refine HM.mono ?_
    rintro e w1 ⟨rfl, rfl⟩
    go_wp2
    go_ret
    exact ⟨rfl, Chg.refl no _⟩
  rw [hk] at HM
  by_cases hz : 1 ≤ z ∧ z ≤ 4
  rotate_left
  · have e : ans = false := by
      rw [← HA.out]
      unfold mayB mayE okZ
      rw [decide_eq_false hz]
      simp
    subst e
    have hz0 : lenZ z = 0 := by unfold lenZ; rw [if_neg hz]
    rw [hz0] at HZ
    clear hk HA hz hz0
    go_enter Try.func18, Try.ntmps18
    go_wp2_with fail
    refine HM.mono ?_
    rintro e w1 ⟨rfl, rfl⟩
    go_wp2_with fail
    refine HZ.mono ?_
    rintro e w1 ⟨rfl, rfl⟩
    go_wp2
    go_ret
    exact ⟨rfl, Chg.refl no _⟩
  have HA2 : Hid ((ls.all (okL h) && okI h its && decide (ids its).Nodup) = ans) := by
    show _ = _
    rw [← HA.out]
    simp [mayB, mayE, hk, okZ, hz]
  obtain ⟨lz, hlz⟩ : ∃ x, lenZ z = x := ⟨_, rfl⟩
  have hlz0 : ¬ lz = 0 := by
    rw [← hlz]
    unfold lenZ
    rw [if_pos hz]
    omega
  rw [hlz] at HZ
  clear HA hk hz hlz
  have hlb : (lz == 0) = false := by simpa using hlz0
  go_enter Try.func18, Try.ntmps18
  go_wp2_with fail
  refine HM.mono ?_
  rintro e w1 ⟨rfl, rfl⟩
  clear HM
  go_wp2_with fail
  refine HZ.mono ?_
  rintro e w1 ⟨rfl, rfl⟩
  clear HZ
  go_wp2_with fail
  go_loopw [9] (fun i wr => ∃ j : Nat, j ≤ n ∧ i = .int .i64 (j : Int) ∧ Chg no w1 wr ∧ (ls.take j).all (okL h) = true) (fun i _ => n - (intOf i).toNat)
  case atStart => exact ⟨0, by omega, rfl, Chg.refl no _, rfl⟩
  case round =>
    obtain ⟨j, hj, rfl, hC, ht⟩ := hrel
    have HC : Hid (Chg no w1 wr) := hC
    have HL : Hid ((ls.take j).all (okL h) = true) := ht
    clear hC ht
    by_cases hjn : j < n
    · have hji : (j : Int) < n := by omega
      obtain ⟨x, rfl, hx⟩ := lies_at HV.out j (by rw [EN.out]; exact hjn)
      have hx2 := HC.out.cell hx (fun h => h)
      obtain ⟨l, hl⟩ : ∃ l, ls.getD j 0 = l := ⟨_, rfl⟩
      rw [hl] at hx2
      have HL2 : Hid (ls.getD j 0 = l) := hl
      clear hl hx
      have HIl := HI.out wr l
      cases hok : okL h l
      · rw [hok] at HIl
        have e : ans = false := by
          rw [← HA2.out, alls_not (d := 0) (by rw [EN.out]; exact hjn) (by rw [HL2.out]; exact hok)]
          rfl
        subst e
        clear hok HA2
        go_wp2_with fail
        refine HIl.mono ?_
        rintro e w2 ⟨rfl, rfl⟩
        go_wp2
        go_ret
        exact ⟨rfl, HC.out⟩
      · rw [hok] at HIl
        have HO : Hid (okL h l = true) := hok
        clear hok
        go_wp2_with fail
        refine HIl.mono ?_
        rintro e w2 ⟨rfl, rfl⟩
        go_wp2
        go_roundw
        case rel => exact ⟨j + 1, by omega, by go_num, HC.out, alls_take (d := 0) (by rw [EN.out]; exact hjn) HL.out (by rw [HL2.out]; exact HO.out)⟩
        case measure => simp [intOf]; omega
    · obtain rfl : j = n := by omega
      have hji : ¬ ((j : Int) < j) := by omega
      have HA3 : Hid ((okI h its && decide (ids its).Nodup) = ans) := by
        show _ = _
        have e : ls.take j = ls := by rw [← EN.out, List.take_length]
        have := HL.out
        rw [e] at this
        rw [← HA2.out, this]
        simp
      clear HA2 HL
      go_wp2_with fail
      go_loopw [10] (fun i wq => ∃ k : Nat, k ≤ m ∧ i = .int .i64 (k : Int) ∧ Chg no w1 wq ∧ okI h (its.take k) = true ∧ ((ids its).take k).Nodup) (fun i _ => m - (intOf i).toNat)
      case atStart => exact ⟨0, by omega, rfl, HC.out, rfl, by simp⟩
      case round =>
        obtain ⟨k, hk, rfl, hC2, ht2, hd2⟩ := hrel
        have HC2 : Hid (Chg no w1 wr) := hC2
        have HL2 : Hid (okI h (its.take k) = true ∧ ((ids its).take k).Nodup) := ⟨ht2, hd2⟩
        clear hC2 ht2 HC hd2
        by_cases hkm : k < m
        · have hki : (k : Int) < m := by omega
          obtain ⟨y, rfl, c0, c1, hlt, hne⟩ := (HT.out.same HC2.out).at2 k (by rw [EM.out]; exact hkm)
          obtain ⟨⟨p, l⟩, hl⟩ : ∃ l, its.getD k (0, 0) = l := ⟨_, rfl⟩
          rw [hl] at c0 c1
          simp only at c0 c1
          have HL3 : Hid (its.getD k (0, 0) = (p, l)) := hl
          have HP3 : Hid ((ids its).getD k 0 = p) := by show _ = _; rw [getD_getD (by rw [EM.out]; exact hkm), hl]
          clear hl
          have HIl := fun W => HI.out W l
          cases hok : okL h l
          · rw [hok] at HIl
            have e : ans = false := by
              rw [← HA3.out]
              have : okI h its = false := alls_not (d := (0, 0)) (by rw [EM.out]; exact hkm) (by rw [HL3.out]; exact hok)
              rw [this]
              rfl
            subst e
            clear hok HA3
            go_wp2_with fail
            refine (HIl _).mono ?_
            rintro e w2 ⟨rfl, rfl⟩
            go_wp2
            go_ret
            exact ⟨rfl, HC2.out⟩
          · rw [hok] at HIl
            have HO : Hid (okL h l = true) := hok
            clear hok
            go_wp2_with fail
            refine (HIl _).mono ?_
            rintro e w2 ⟨rfl, rfl⟩
            clear HIl
            have HY : Hid (∀ W, Chg no w1 W → W.cell? (y.add (k * 2)) = some (.int .i64 p)) := fun W q => by
              obtain ⟨y', e', d0, _⟩ := (HT.out.same q).at2 k (by rw [EM.out]; exact hkm)
              cases e'
              rw [HL3.out] at d0
              exact d0
            clear c0 c1
            go_wp2_with fail
            rename World => w2
            go_loopw [11] (fun i wq => ∃ q : Nat, q ≤ k ∧ i = .int .i64 (q : Int) ∧ Chg no w1 wq ∧ ∀ r, r < q → (ids its).getD r 0 ≠ p) (fun i _ => k - (intOf i).toNat)
            case atStart => exact ⟨0, by omega, rfl, HC2.out, fun r hr => by omega⟩
            case round =>
              obtain ⟨q, hq, rfl, hC3, hne3⟩ := hrel
              have HC3 : Hid (Chg no w1 wr) := hC3
              have HN3 : Hid (∀ r, r < q → (ids its).getD r 0 ≠ p) := hne3
              clear hC3 hne3
              by_cases hqk : q < k
              · have hqi : (q : Int) < k := by omega
                have hqm : (q : Int) < m := by omega
                obtain ⟨y', e', d0, d1, dl, dn⟩ := (HT.out.same HC3.out).at2 q (by rw [EM.out]; omega)
                cases e'
                have c0 := HY.out _ HC3.out
                obtain ⟨p', hp'⟩ : ∃ p', (its.getD q (0, 0)).1 = p' := ⟨_, rfl⟩
                rw [hp'] at d0
                have HP' : Hid ((ids its).getD q 0 = p') := by show _ = _; rw [getD_getD (by rw [EM.out]; omega), hp']
                clear hp' d1
                by_cases hpp : p' = p
                · subst hpp
                  have e : ans = false := by
                    rw [← HA3.out, decide_eq_false (dup_not hqk (by rw [EI.out]; exact hkm) (by rw [HP'.out, HP3.out]))]
                    simp
                  subst e
                  clear HA3
                  go_wp2_with fail
                  go_quiet (fail)
                  go_wp2
                  go_ret
                  exact ⟨rfl, HC3.out.drewN _⟩
                · have hd : (p' == p) = false := by simpa using hpp
                  have HPN : Hid (p' ≠ p) := hpp
                  clear hpp
                  go_wp2_with fail
                  go_quiet (fail)
                  go_wp2
                  go_roundw
                  case rel =>
                    refine ⟨q + 1, by omega, by go_num, HC3.out.drewN _, fun r hr => ?_⟩
                    by_cases e : r < q
                    · exact HN3.out r e
                    · obtain rfl : r = q := by omega
                      rw [HP'.out]
                      exact HPN.out
                  case measure => simp [intOf]; omega
              · obtain rfl : q = k := by omega
                have hqi : ¬ ((q : Int) < q) := by omega
                go_wp2
                go_roundw
                case rel =>
                  refine ⟨q + 1, by omega, by go_num, HC3.out, alls_take (d := (0, 0)) (by rw [EM.out]; exact hkm) HL2.out.1 (by rw [HL3.out]; exact HO.out), nodup_next (by rw [EI.out]; exact hkm) HL2.out.2 fun r hr => ?_⟩
                  rw [HP3.out]
                  exact HN3.out r hr
                case measure => simp [intOf]; omega
        · obtain rfl : k = m := by omega
          have hki : ¬ ((k : Int) < k) := by omega
          have e : ans = true := by
            have e : its.take k = its := by rw [← EM.out, List.take_length]
            have e2 : (ids its).take k = ids its := by rw [← EI.out, List.take_length]
            have := HL2.out
            rw [e, e2] at this
            rw [← HA3.out, this.1, decide_eq_true this.2]
            rfl
          subst e
          clear HA3
          go_wp2
          go_ret
          exact ⟨rfl, HC2.out⟩

end Go.Proofs.Ytkaohjlnlgennaa.st
