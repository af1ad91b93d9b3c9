/- The program's May. -/
import Derived.Test.YtfhpdcimdeilpaaLa
import Derived.Test.YtfhpdcimdeilpaaDi
namespace Go.Proofs.Ytfhpdcimdeilpaa.st
open Go.ChangeShapes Go.WideShapes Go.ChangeAt Go.RowKit Go.Proofs.Ytfhpdcimdeilpaa.hp
set_option linter.unusedVariables false
set_option linter.unusedSimpArgs false

theorem noKind_any (w : World) (k : Int) : Calls Try.prog 79 #[.int .i64 k] w fun e w' => e = .returned (.bool (decide (k ≠ 1 ∧ k ≠ 2))) ∧ w' = w := by
  by_cases h1 : k = 1
  · subst h1
    go_enter Try.func79, Try.ntmps79
    go_wp2
    go_ret
    exact ⟨rfl, rfl⟩
  · by_cases h2 : k = 2
    · subst h2
      go_enter Try.func79, Try.ntmps79
      go_wp2
      go_ret
      exact ⟨rfl, rfl⟩
    · have e1 : (k == 1) = false := by simpa using h1
      have e2 : (k == 2) = false := by simpa using h2
      have n1 : (k != 1) = true := by simpa using h1
      have n2 : (k != 2) = true := by simpa using h2
      go_enter Try.func79, Try.ntmps79
      go_wp2
      go_ret
      exact ⟨ret_bool (by simp [h1, h2]), rfl⟩

set_option maxHeartbeats 4000000 in
theorem index_any (w : World) (J : Nat → Prop) (a : Option Addr) (m c : Nat) (zs : List Int) (hm : zs.length = m) (hmm : m ≤ 4) (hL : Lies J w (.slice a m c) (zs.map (Value.int .i64))) :
    Calls Try.prog 83 #[.slice a m c, .func (.func 79) #[] #[]] w fun e w' => (∃ q : Int, e = .returned (.int .i64 q) ∧ (0 ≤ q ↔ ∃ k ∈ zs, k ≠ 1 ∧ k ≠ 2)) ∧ w' = w := by
  have HM : Hid (zs.length = m) := hm
  have HL : Hid (Lies J w (.slice a m c) (zs.map (Value.int .i64))) := hL
  have HN : Hid (∀ W k, _) := fun W k => noKind_any W k
  have hmi : (m : Int) ≤ 4 := by omega
  clear hm hL
  go_enter Try.func83, Try.ntmps83
  go_wp2_with fail
  go_loopw [8] (fun iv wq => ∃ i : Nat, i ≤ m ∧ iv = .int .i64 (i : Int) ∧ (∀ k, k < i → zs.getD k 0 = 1 ∨ zs.getD k 0 = 2) ∧ wq = w) (fun iv _ => m - (intOf iv).toNat)
  case atStart => exact ⟨0, by omega, rfl, fun k hk => by omega, rfl⟩
  case round =>
    rename World => wl
    obtain ⟨i, hi, rfl, hok, hwq⟩ := hrel
    subst hwq
    have HO : Hid (∀ k, k < i → zs.getD k 0 = 1 ∨ zs.getD k 0 = 2) := hok
    clear hok
    by_cases him : i < m
    · have hii : (i : Int) < m := by omega
      obtain ⟨y, rfl, d1⟩ := lies_at HL.out i (by rw [HM.out]; exact him)
      obtain ⟨k, hk⟩ : ∃ k, zs.getD i 0 = k := ⟨_, rfl⟩
      rw [hk] at d1
      have HZ : Hid (zs.getD i 0 = k) := hk
      clear hk
      by_cases hno : k ≠ 1 ∧ k ≠ 2
      · have HC : Hid (∀ W, Calls Try.prog 79 #[.int .i64 k] W fun e w' => e = .returned (.bool true) ∧ w' = W) := fun W => by
          have := HN.out W k
          rwa [decide_eq_true hno] at this
        have HE : Hid (∃ k ∈ zs, k ≠ 1 ∧ k ≠ 2) := ⟨k, by rw [← HZ.out]; exact getD_mem (by rw [HM.out]; exact him), hno⟩
        clear HN hno
        go_wp2_with fail
        refine (HC.out _).mono ?_
        rintro e w2 ⟨rfl, hw⟩
        subst hw
        go_wp2
        go_ret
        exact ⟨⟨(i : Int), rfl, fun _ => HE.out, fun _ => by omega⟩, rfl⟩
      · have HC : Hid (∀ W, Calls Try.prog 79 #[.int .i64 k] W fun e w' => e = .returned (.bool false) ∧ w' = W) := fun W => by
          have := HN.out W k
          rwa [decide_eq_false hno] at this
        have HK : Hid (k = 1 ∨ k = 2) := by show _ ∨ _; omega
        clear hno
        go_wp2_with fail
        refine (HC.out _).mono ?_
        rintro e w2 ⟨rfl, hw⟩
        subst hw
        go_wp2
        go_roundw
        case rel =>
          refine ⟨i + 1, by omega, by go_num, fun r hr => ?_, by first | rfl | trivial⟩
          by_cases e : r < i
          · exact HO.out r e
          · obtain rfl : r = i := by omega
            rw [HZ.out]
            exact HK.out
        case measure => simp [intOf]; omega
    · obtain rfl : i = m := by omega
      have hii : ¬ (i : Int) < i := by omega
      have HE : Hid (¬ ∃ k ∈ zs, k ≠ 1 ∧ k ≠ 2) := by
        rintro ⟨k, hk, h1, h2⟩
        obtain ⟨j, hj, hjk⟩ := List.getElem_of_mem hk
        have := HO.out j (by rw [← HM.out]; exact hj)
        rw [List.getD_eq_getElem?_getD, List.getElem?_eq_getElem hj] at this
        simp only [Option.getD_some] at this
        omega
      go_wp2
      go_ret
      exact ⟨⟨-1, rfl, fun h => by omega, fun h => absurd h HE.out⟩, rfl⟩

theorem contains_any (w : World) (J : Nat → Prop) (a : Option Addr) (m c : Nat) (zs : List Int) (hm : zs.length = m) (hmm : m ≤ 4) (hL : Lies J w (.slice a m c) (zs.map (Value.int .i64))) :
    Calls Try.prog 78 #[.slice a m c, .func (.func 79) #[] #[]] w fun e w' => e = .returned (.bool (decide (∃ k ∈ zs, k ≠ 1 ∧ k ≠ 2))) ∧ w' = w := by
  have H := index_any w J a m c zs hm hmm hL
  obtain ⟨B, hB⟩ : ∃ B, decide (∃ k ∈ zs, k ≠ 1 ∧ k ≠ 2) = B := ⟨_, rfl⟩
  have HB : Hid (decide (∃ k ∈ zs, k ≠ 1 ∧ k ≠ 2) = B) := hB
  rw [hB]
  clear hL hm hmm hB
  go_enter Try.func78, Try.ntmps78
  go_wp2_with fail
  refine H.mono ?_
  rintro e w2 ⟨⟨q, rfl, hq⟩, hw⟩
  subst hw
  by_cases h0 : 0 ≤ q
  · obtain rfl : true = B := (decide_eq_true (hq.1 h0)).symm.trans HB.out
    clear hq H
    go_wp2
    go_ret
    exact ⟨by first | rfl | exact ret_bool (decide_eq_true h0) | exact ret_bool (decide_eq_false (by omega)), rfl⟩
  · obtain rfl : false = B := (decide_eq_false (fun h => h0 (hq.2 h))).symm.trans HB.out
    clear hq H
    go_wp2
    go_ret
    exact ⟨by first | rfl | exact ret_bool (decide_eq_true h0) | exact ret_bool (decide_eq_false (by omega)), rfl⟩

set_option maxHeartbeats 4000000 in
theorem tables_any (w : World) (a : Option Addr) (len c : Nat) (A : Nat → Option Addr) (C : Nat → Nat) (Z : Nat → List Int) (hlm : len ≤ maxLen) (R : Rws w a len A C Z) (B : Bool) (hB : B = true ↔ (1 ≤ len ∧ len ≤ 4) ∧ okT len Z) : Calls Try.prog 53 #[.slice a len c] w fun e w' => e = .returned (.bool B) ∧ w' = w := by
  have hlmax : (len : Int) ≤ 9223372036854775807 := by unfold maxLen at hlm; omega
  have HW : Hid (∀ W, _) := fun W => within_any W 1 (len : Int) 4
  have HR : Hid (Rws w a len A C Z) := R
  have HB : Hid (B = true ↔ (1 ≤ len ∧ len ≤ 4) ∧ okT len Z) := hB
  have HN : Hid (∀ (W : World) (m : Nat), Calls Try.prog 52 #[.int .i64 1, .int .i64 (m : Int), .int .i64 4] W fun e w' => e = .returned (.bool (decide (1 ≤ (m : Int) ∧ (m : Int) ≤ 4))) ∧ w' = W) := fun W m => within_any W 1 (m : Int) 4
  clear R hB hlm
  by_cases hl : 1 ≤ (len : Int) ∧ (len : Int) ≤ 4
  · rw [decide_eq_true hl] at HW
    have HLN : Hid (1 ≤ len ∧ len ≤ 4) := by show _ ∧ _; omega
    clear hl
    go_enter Try.func53, Try.ntmps53
    go_wp2_with fail
    refine (HW.out _).mono ?_
    rintro e w2 ⟨rfl, hw⟩
    subst hw
    go_wp2_with fail
    go_loopw [11] (fun iv wq => ∃ i : Nat, i ≤ len ∧ iv = .int .i64 (i : Int) ∧ (∀ r, r < i → 1 ≤ (Z r).length ∧ (Z r).length ≤ 4 ∧ ∀ k ∈ Z r, k = 1 ∨ k = 2) ∧ wq = w2) (fun iv _ => len - (intOf iv).toNat)
    case atStart => exact ⟨0, by omega, rfl, fun r hr => by omega, rfl⟩
    case round =>
      rename World => wl
      obtain ⟨i, hi, rfl, hok, hwq⟩ := hrel
      subst hwq
      have HO : Hid (∀ r, r < i → 1 ≤ (Z r).length ∧ (Z r).length ≤ 4 ∧ ∀ k ∈ Z r, k = 1 ∨ k = 2) := hok
      clear hok
      by_cases hil : i < len
      · have hii : (i : Int) < len := by omega
        obtain ⟨y, rfl, d1, d2, d3, hL⟩ := HR.out i hil
        obtain ⟨m, hm⟩ : ∃ m, (Z i).length = m := ⟨_, rfl⟩
        obtain ⟨b1, hb1⟩ : ∃ b, A i = b := ⟨_, rfl⟩
        obtain ⟨e1, he1⟩ : ∃ b, C i = b := ⟨_, rfl⟩
        obtain ⟨zs, hzs⟩ : ∃ zs, Z i = zs := ⟨_, rfl⟩
        have HM : Hid (zs.length = m) := by show _ = _; rw [← hzs]; exact hm
        have HZ : Hid (Z i = zs) := hzs
        rw [hm, hb1, he1] at d1 hL
        rw [hzs] at hL
        have HL : Hid (Lies (Old wl) wl (.slice b1 m e1) (zs.map (Value.int .i64))) := hL
        have hmle : (m : Int) ≤ 9223372036854775807 := by unfold maxLen at d3; omega
        clear hm hb1 he1 hzs hL d2 d3
        by_cases hm1 : 1 ≤ (m : Int) ∧ (m : Int) ≤ 4
        · have HN1 : Hid (∀ W, Calls Try.prog 52 #[.int .i64 1, .int .i64 (m : Int), .int .i64 4] W fun e w' => e = .returned (.bool true) ∧ w' = W) := fun W => by
            have := HN.out W m
            rwa [decide_eq_true hm1] at this
          have hCo := contains_any wl (Old wl) b1 m e1 zs HM.out (by omega) HL.out
          have HMM : Hid (1 ≤ m ∧ m ≤ 4) := by show _ ∧ _; omega
          clear hm1
          by_cases hno : ∃ k ∈ zs, k ≠ 1 ∧ k ≠ 2
          · rw [decide_eq_true hno] at hCo
            have hbf : B = false := by
              rw [Bool.eq_false_iff]
              intro hh
              obtain ⟨k, hk, h1, h2⟩ := hno
              have := ((HB.out.1 hh).2 i hil).2.2 k (by rw [HZ.out]; exact hk)
              omega
            subst hbf
            clear hno
            go_wp2_with fail
            refine (HN1.out _).mono ?_
            rintro e w3 ⟨rfl, hw⟩
            subst hw
            go_wp2_with fail
            refine hCo.mono ?_
            rintro e w4 ⟨rfl, hw⟩
            subst hw
            go_wp2
            go_ret
            exact ⟨rfl, rfl⟩
          · rw [decide_eq_false hno] at hCo
            have HG : Hid (∀ k ∈ zs, k = 1 ∨ k = 2) := fun k hk => by
              by_cases h1 : k = 1
              · exact .inl h1
              · by_cases h2 : k = 2
                · exact .inr h2
                · exact absurd ⟨k, hk, h1, h2⟩ hno
            clear hno
            go_wp2_with fail
            refine (HN1.out _).mono ?_
            rintro e w3 ⟨rfl, hw⟩
            subst hw
            go_wp2_with fail
            refine hCo.mono ?_
            rintro e w4 ⟨rfl, hw⟩
            subst hw
            go_wp2
            go_roundw
            case rel =>
              refine ⟨i + 1, by omega, by go_num, fun r hr => ?_, by first | rfl | trivial⟩
              by_cases e : r < i
              · exact HO.out r e
              · obtain rfl : r = i := by omega
                rw [HZ.out, HM.out]
                exact ⟨HMM.out.1, HMM.out.2, HG.out⟩
            case measure => simp [intOf]; omega
        · have HN1 : Hid (∀ W, Calls Try.prog 52 #[.int .i64 1, .int .i64 (m : Int), .int .i64 4] W fun e w' => e = .returned (.bool false) ∧ w' = W) := fun W => by
            have := HN.out W m
            rwa [decide_eq_false hm1] at this
          have hbf : B = false := by
            rw [Bool.eq_false_iff]
            intro hh
            have := (HB.out.1 hh).2 i hil
            rw [HZ.out, HM.out] at this
            omega
          subst hbf
          clear hm1
          go_wp2_with fail
          refine (HN1.out _).mono ?_
          rintro e w3 ⟨rfl, hw⟩
          subst hw
          go_wp2
          go_ret
          exact ⟨rfl, rfl⟩
      · obtain rfl : i = len := by omega
        have hii : ¬ (i : Int) < i := by omega
        have hbt : B = true := HB.out.2 ⟨HLN.out, HO.out⟩
        subst hbt
        go_wp2
        go_ret
        exact ⟨rfl, rfl⟩
  · rw [decide_eq_false hl] at HW
    have hbf : B = false := by
      rw [Bool.eq_false_iff]
      intro hh
      have := (HB.out.1 hh).1
      omega
    subst hbf
    clear hl
    go_enter Try.func53, Try.ntmps53
    go_wp2_with fail
    refine (HW.out _).mono ?_
    rintro e w2 ⟨rfl, hw⟩
    subst hw
    go_wp2
    go_ret
    exact ⟨rfl, rfl⟩

end Go.Proofs.Ytfhpdcimdeilpaa.st
