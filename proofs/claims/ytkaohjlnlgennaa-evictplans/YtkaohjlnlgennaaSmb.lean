/- Contracts of the small functions of evict and of the document: leaves, lengths, may they be planned. -/
import Derived.Test.YtkaohjlnlgennaaRun
import Derived.Test.YtkaohjlnlgennaaItm
import Derived.Test.YtkaohjlnlgennaaEvr
namespace Go.Proofs.Ytkaohjlnlgennaa.st
open Go.ChangeShapes Go.WideShapes Go.ChangeAt Go.RowKit Go.Proofs.Ytkaohjlnlgennaa.hp Go.Proofs.Ytkaohjlnlgennaa.tm Go.Proofs.Ytkaohjlnlgennaa.ev
set_option linter.unusedVariables false

theorem eisLeaf_any (w : World) (h l : Int) : Calls Try.prog 46 #[.int .i64 h, .int .i64 l] w fun e w' => e = .returned (.bool (okL h l)) ∧ w' = w := by
  have HM := leaves_any w h
  rw [okL_eq]
  obtain ⟨n, hn⟩ : ∃ n, lvs h = n := ⟨_, rfl⟩
  rw [hn] at HM ⊢
  clear hn
  have hc : l < 0 ∨ (0 ≤ l ∧ l < n) ∨ (0 ≤ l ∧ n ≤ l) := by omega
  rcases hc with h1 | ⟨h1, h2⟩ | ⟨h1, h2⟩
  · go_enter Try.func46, Try.ntmps46
    go_wp2
    go_ret
    exact ⟨ret_bool (by simp; omega), rfl⟩
  all_goals
    go_enter Try.func46, Try.ntmps46
    go_wp2_with fail
    refine HM.mono ?_
    rintro e w1 ⟨rfl, rfl⟩
    go_wp2
    go_ret
    exact ⟨ret_bool (by simp; try omega), rfl⟩

/-- A bucket's length: the document's. -/
def lenZ (z : Int) : Int := if 1 ≤ z ∧ z ≤ 4 then z * 38 else 0

theorem rlength_any (w : World) (z : Int) : Calls Try.prog 39 #[.int .i64 z] w fun e w' => e = .returned (.int .i64 (lenZ z)) ∧ w' = w := by
  have hc : z < 1 ∨ (1 ≤ z ∧ z ≤ 4) ∨ (1 ≤ z ∧ 4 < z) := by omega
  rcases hc with h1 | ⟨h1, h2⟩ | ⟨h1, h2⟩
  · go_enter Try.func39, Try.ntmps39
    go_wp2
    go_ret
    exact ⟨ret_int (by unfold lenZ; rw [if_neg (by omega)]), rfl⟩
  · go_enter Try.func39, Try.ntmps39
    go_wp2
    go_ret
    exact ⟨ret_int (by unfold lenZ; rw [if_pos ⟨h1, h2⟩]), rfl⟩
  · go_enter Try.func39, Try.ntmps39
    go_wp2
    go_ret
    exact ⟨ret_int (by unfold lenZ; rw [if_neg (by omega)]), rfl⟩

def okZ (z : Int) : Bool := decide (1 ≤ z ∧ z ≤ 4)

/-- All of the items' leaves. -/
def okI (h : Int) (its : List (Int × Int)) : Bool := its.all fun i => okL h i.2

/-- All that is asked but the ids. -/
def mayE (h z : Int) (ls : List Int) (its : List (Int × Int)) : Bool := okH h && okZ z && ls.all (okL h) && okI h its

theorem alls_take {α : Type} {p : α → Bool} {ls : List α} {d : α} {j : Nat} (hj : j < ls.length) (h1 : (ls.take j).all p = true) (h2 : p (ls.getD j d) = true) : (ls.take (j + 1)).all p = true := by
  rw [take_next ls d j hj, List.all_append, h1, List.all_cons, h2]
  rfl

theorem alls_not {α : Type} {p : α → Bool} {ls : List α} {d : α} {j : Nat} (hj : j < ls.length) (h2 : p (ls.getD j d) = false) : ls.all p = false := by
  rw [List.all_eq_false]
  refine ⟨_, List.getElem_mem hj, ?_⟩
  rw [List.getD_eq_getElem?_getD, List.getElem?_eq_getElem hj] at h2
  simp only [Option.getD_some] at h2
  rw [h2]
  simp

set_option maxHeartbeats 2000000 in
theorem mayPlan_any {J K : Nat → Prop} (w : World) (h z : Int) (v iv : Value) (ls : List Int) (its : List (Int × Int)) (hv : Lies J w v (ls.map (Value.int .i64))) (hi : Lie K w iv its.length (its.flatMap f2)) (hl : ls.length ≤ 100000) (hil : its.length ≤ 100000) :
    Calls Try.prog 26 #[.int .i64 h, .int .i64 z, v, iv] w fun e w' => e = .returned (.bool (mayE h z ls its)) ∧ Chg no w w' := by
  have HM := may_any w h
  obtain ⟨a, c, rfl, _⟩ := hv.slice
  obtain ⟨b, d, rfl⟩ := hi.slice
  simp only [List.length_map] at hv ⊢
  have HI : Hid (∀ (W : World) (l : Int), Calls Try.prog 46 #[.int .i64 h, .int .i64 l] W fun e w' => e = .returned (.bool (okL h l)) ∧ w' = W) := fun W l => eisLeaf_any W h l
  obtain ⟨n, hn⟩ : ∃ n, ls.length = n := ⟨_, rfl⟩
  obtain ⟨m, hm⟩ : ∃ m, its.length = m := ⟨_, rfl⟩
  have EN : Hid (ls.length = n) := hn
  have EM : Hid (its.length = m) := hm
  rw [hn] at hv hl ⊢
  rw [hm] at hi hil ⊢
  have HV : Hid (Lies J w (.slice a n c) (ls.map (Value.int .i64))) := hv
  have HT : Hid (Lie K w (.slice b m d) m (its.flatMap f2)) := hi
  have hni : (n : Int) ≤ 100000 := by omega
  have hmi : (m : Int) ≤ 100000 := by omega
  obtain ⟨ans, hans⟩ : ∃ x, mayE h z ls its = x := ⟨_, rfl⟩
  have HA : Hid (mayE h z ls its = ans) := hans
  rw [hans]
  clear hv hi hn hm hans hl hil
  cases hk : okH h
  · rw [hk] at HM
    have e : ans = false := by rw [← HA.out]; simp [mayE, hk]
    subst e
    clear hk HA
    go_enter Try.func26, Try.ntmps26
    go_wp2_with fail
    refine HM.mono ?_
    rintro e w1 ⟨rfl, rfl⟩
    go_wp2
    go_ret
    exact ⟨rfl, Chg.refl no _⟩
  rw [hk] at HM
  have hz : z < 1 ∨ 4 < z ∨ (1 ≤ z ∧ z ≤ 4) := by omega
  rcases hz with hz | hz | ⟨hz1, hz2⟩
  · have e : ans = false := by rw [← HA.out]; simp [mayE, okZ]; omega
    subst e
    clear hk HA
    go_enter Try.func26, Try.ntmps26
    go_wp2_with fail
    refine HM.mono ?_
    rintro e w1 ⟨rfl, rfl⟩
    go_wp2
    go_ret
    exact ⟨rfl, Chg.refl no _⟩
  · have e : ans = false := by rw [← HA.out]; simp [mayE, okZ]; omega
    subst e
    clear hk HA
    go_enter Try.func26, Try.ntmps26
    go_wp2_with fail
    refine HM.mono ?_
    rintro e w1 ⟨rfl, rfl⟩
    go_wp2
    go_ret
    exact ⟨rfl, Chg.refl no _⟩
  have HA2 : Hid ((ls.all (okL h) && okI h its) = ans) := by
    show _ = _
    rw [← HA.out]
    simp [mayE, hk, okZ, hz1, hz2]
  clear HA hk
  go_enter Try.func26, Try.ntmps26
  go_wp2_with fail
  refine HM.mono ?_
  rintro e w1 ⟨rfl, rfl⟩
  clear HM
  go_wp2_with fail
  go_loopw [26] (fun i wr => ∃ j : Nat, j ≤ n ∧ i = .int .i64 (j : Int) ∧ Chg no w1 wr ∧ (ls.take j).all (okL h) = true) (fun i _ => n - (intOf i).toNat)
  case atStart => exact ⟨0, by omega, rfl, Chg.refl no _, rfl⟩
  case round =>
    obtain ⟨j, hj, rfl, hC, ht⟩ := hrel
    have HC : Hid (Chg no w1 wr) := hC
    have HL : Hid ((ls.take j).all (okL h) = true) := ht
    clear hC ht
    by_cases hjn : j < n
    · have hji : (j : Int) < n := by omega
      obtain ⟨x, rfl, hx⟩ := lies_at HV.out j (by rw [EN.out]; exact hjn)
      have hx2 := HC.out.cell hx (fun h => h)
      obtain ⟨l, hl⟩ : ∃ l, ls.getD j 0 = l := ⟨_, rfl⟩
      rw [hl] at hx2
      have HL2 : Hid (ls.getD j 0 = l) := hl
      clear hl hx
      have HIl := HI.out wr l
      cases hok : okL h l
      · rw [hok] at HIl
        have e : ans = false := by
          rw [← HA2.out, alls_not (d := 0) (by rw [EN.out]; exact hjn) (by rw [HL2.out]; exact hok)]
          rfl
        subst e
        clear hok HA2
        go_wp2_with fail
        refine HIl.mono ?_
        rintro e w2 ⟨rfl, rfl⟩
        go_wp2
        go_ret
        exact ⟨rfl, HC.out⟩
      · rw [hok] at HIl
        have HO : Hid (okL h l = true) := hok
        clear hok
        go_wp2_with fail
        refine HIl.mono ?_
        rintro e w2 ⟨rfl, rfl⟩
        go_wp2
        go_roundw
        case rel => exact ⟨j + 1, by omega, by go_num, HC.out, alls_take (d := 0) (by rw [EN.out]; exact hjn) HL.out (by rw [HL2.out]; exact HO.out)⟩
        case measure => simp [intOf]; omega
    · obtain rfl : j = n := by omega
      have hji : ¬ ((j : Int) < j) := by omega
      have HA3 : Hid (okI h its = ans) := by
        show _ = _
        have e : ls.take j = ls := by rw [← EN.out, List.take_length]
        have := HL.out
        rw [e] at this
        rw [← HA2.out, this]
        rfl
      clear HA2 HL
      go_wp2_with fail
      go_loopw [37] (fun i wq => ∃ k : Nat, k ≤ m ∧ i = .int .i64 (k : Int) ∧ Chg no w1 wq ∧ okI h (its.take k) = true) (fun i _ => m - (intOf i).toNat)
      case atStart => exact ⟨0, by omega, rfl, HC.out, rfl⟩
      case round =>
        obtain ⟨k, hk, rfl, hC2, ht2⟩ := hrel
        have HC2 : Hid (Chg no w1 wr) := hC2
        have HL2 : Hid (okI h (its.take k) = true) := ht2
        clear hC2 ht2 HC
        by_cases hkm : k < m
        · have hki : (k : Int) < m := by omega
          obtain ⟨y, rfl, c0, c1, hlt, hne⟩ := (HT.out.same HC2.out).at2 k (by rw [EM.out]; exact hkm)
          obtain ⟨⟨p, l⟩, hl⟩ : ∃ l, its.getD k (0, 0) = l := ⟨_, rfl⟩
          rw [hl] at c0 c1
          simp only at c0 c1
          have HL3 : Hid (its.getD k (0, 0) = (p, l)) := hl
          clear hl
          have HIl := fun W => HI.out W l
          cases hok : okL h l
          · rw [hok] at HIl
            have e : ans = false := by
              rw [← HA3.out]
              exact alls_not (d := (0, 0)) (by rw [EM.out]; exact hkm) (by rw [HL3.out]; exact hok)
            subst e
            clear hok HA3
            go_wp2_with fail
            refine (HIl _).mono ?_
            rintro e w2 ⟨rfl, rfl⟩
            go_wp2
            go_ret
            exact ⟨rfl, HC2.out.alloc _⟩
          · rw [hok] at HIl
            have HO : Hid (okL h l = true) := hok
            clear hok
            go_wp2_with fail
            refine (HIl _).mono ?_
            rintro e w2 ⟨rfl, rfl⟩
            go_wp2
            go_roundw
            case rel => exact ⟨k + 1, by omega, by go_num, HC2.out.alloc _, alls_take (d := (0, 0)) (by rw [EM.out]; exact hkm) HL2.out (by rw [HL3.out]; exact HO.out)⟩
            case measure => simp [intOf]; omega
        · obtain rfl : k = m := by omega
          have hki : ¬ ((k : Int) < k) := by omega
          have e : ans = true := by
            have e : its.take k = its := by rw [← EM.out, List.take_length]
            have := HL2.out
            rw [e] at this
            rw [← HA3.out, this]
          subst e
          clear HA3
          go_wp2
          go_ret
          exact ⟨rfl, HC2.out⟩

end Go.Proofs.Ytkaohjlnlgennaa.st
