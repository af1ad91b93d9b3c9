/-
  Proved: for all bytes, every length and all nonces the law SealOrder returns true; no condition.
-/
import Derived.Test.YtmchjnmmeankgaaEqs
namespace Go.Proofs.Ytmchjnmmeankgaa.sealOrder
open Go.ChangeShapes Go.WideShapes Go.ChangeAt Go.RowKit Go.Proofs.Ytmchjnmmeankgaa.hp Go.Proofs.Ytmchjnmmeankgaa.dg Go.Proofs.Ytmchjnmmeankgaa.st
set_option linter.unusedVariables false

set_option maxRecDepth 100000 in
set_option maxHeartbeats 2000000 in
theorem early (w : World) (a0 : Option Addr) (l0 c0 : Nat) (l : Int) (a2 : Option Addr) (l2 c2 : Nat) (hh : 2000 < l0 ∨ l < 1 ∨ 20 < l ∨ 40 < l2) :
    Calls Try.prog 6 #[.slice a0 l0 c0, .int .i64 l, .slice a2 l2 c2] w fun e w' => e = .returned (.bool true) ∧ Below w.heap.size w w' := by
  have hc : (2000 < (l0 : Int)) ∨ ((l0 : Int) ≤ 2000 ∧ l < 1) ∨ ((l0 : Int) ≤ 2000 ∧ 1 ≤ l ∧ 20 < l) ∨ ((l0 : Int) ≤ 2000 ∧ 1 ≤ l ∧ l ≤ 20 ∧ 40 < (l2 : Int)) := by omega
  clear hh
  rcases hc with h1 | ⟨h1, h2⟩ | ⟨h1, h2, h3⟩ | ⟨h1, h2, h3, h4⟩
  all_goals
    go_enter Try.func6, Try.ntmps6
    go_wp2_with fail
    refine (first_any _).mono ?_
    rintro e w1 ⟨rfl, k1⟩
    go_wp2_with fail
    refine (first_any _).mono ?_
    rintro e w3 ⟨rfl, k3⟩
    go_wp2
    go_ret
    exact ⟨rfl, (k1.then k3).below⟩

set_option maxRecDepth 100000 in
set_option maxHeartbeats 16000000 in
theorem late (w : World) (a0 : Option Addr) (c0 : Nat) (z0 : List Int) (L : Nat) (a2 : Option Addr) (l2 c2 : Nat) (P : Nat → Int × Int)
    (h0 : Lies (Old w) w (.slice a0 z0.length c0) (z0.map (Value.int .u8))) (hP : PairsAt w a2 l2 P) (e0 : z0.length ≤ 2000) (l1 : 1 ≤ L) (hL : L ≤ 20) (e2 : l2 ≤ 40) :
    Calls Try.prog 6 #[.slice a0 z0.length c0, .int .i64 L, .slice a2 l2 c2] w fun e w' => e = .returned (.bool true) ∧ Below w.heap.size w w' := by
  have i0 : (z0.length : Int) ≤ 2000 := by omega
  have i1 : (1 : Int) ≤ L := by omega
  have i2 : (L : Int) ≤ 20 := by omega
  have i3 : (l2 : Int) ≤ 40 := by omega
  obtain ⟨M, hM⟩ : ∃ M, max z0.length 800 = M := ⟨_, rfl⟩
  obtain ⟨hM1, hM2, hM3⟩ : 800 ≤ M ∧ z0.length ≤ M ∧ M ≤ 2000 := by omega
  have hmax : (if (z0.length : Int) < 800 then (800 : Int) else (z0.length : Int)) = M := by split <;> omega
  have hmax2 : (if z0.length < 800 then (800 : Int) else (z0.length : Int)) = M := by split <;> omega
  have hmi : (800 : Int) ≤ M := by omega
  have hmi2 : (M : Int) ≤ 2000 := by omega
  obtain ⟨f, hf⟩ : ∃ f, fit z0 M = f := ⟨_, rfl⟩
  have HFL : Hid (f.length = M) := by rw [← hf]; exact fit_length _ _
  have HF : Hid (fit z0 M = f) := hf
  have HPC : Hid (∀ A, A + L ≤ M → (f.drop A).take L = padsOf z0 A L) := by
    intro A hA
    rw [← hf]
    exact fit_piece z0 M A L hA hM2
  have HP : Hid (∀ w', Chg no w w' → PairsAt w' a2 l2 P) := fun w' k => hP.chg k
  have HL0 : Hid (∀ w', Chg no w w' → Lies (fun _ => True) w' (.slice a0 z0.length c0) (z0.map (Value.int .u8))) := fun w' k => (h0.chg k (fun _ _ h => h)).mono (fun _ _ => trivial)
  clear h0 hP hf hM
  have hneq := neq40
  have heql := eql40
  have hgrd := eqg40
  go_enter Try.func6, Try.ntmps6
  go_wp2_with fail
  refine (first_any _).mono ?_
  rintro e w1 ⟨rfl, k1⟩
  have HN := newPads_any _ z0 _ w1 (HL0.out _ k1) (by omega)
  go_wp2_with fail
  refine HN.mono ?_
  rintro e w2 ⟨q, tv, rfl, T2, hq, htv, k2, hql⟩
  have HNO := new_ok T2 L l1 (by omega)
  have hs1 := k1.size
  have hs2 := k2.size
  clear HN T2
  go_wp2_with fail
  refine HNO.mono ?_
  rintro e w3 ⟨p, rfl, O3, k3⟩
  have K3 := (k1.then k2).then k3
  have hs3 := k3.size
  obtain ⟨F, hF⟩ : ∃ F : Nat → Prop, F = fun k => k = q ∨ tv.ownBlock = some k ∨ (w2.heap.size ≤ k ∧ k < w3.heap.size) := ⟨_, rfl⟩
  have hFB : ∀ k, F k → w.heap.size ≤ k ∧ k < w3.heap.size := by
    intro k hk
    rw [hF] at hk
    rcases hk with e | e | e
    · omega
    · have := htv k e
      omega
    · omega
  rw [← hF] at O3
  have HRF := rfill_any w3 (.slice a0 z0.length c0) z0 M (HL0.out _ K3) (by omega)
  rw [HF.out] at HRF
  clear HNO hF htv k1 k2 k3 hq hql
  go_wp2_with fail
  refine HRF.mono ?_
  rintro e w4 ⟨rfl, g4, k4⟩
  have hA : OrdAt w p q w3.heap.size (ordS z0 L P 0) f w4 := ⟨⟨F, O3.chg k4 (fun _ _ h => h), fun k hk => ⟨(hFB k hk).1, by have := (hFB k hk).2; omega⟩⟩, K3.then k4, g4⟩
  obtain ⟨T, hT⟩ : ∃ T, w3.heap.size = T := ⟨_, rfl⟩
  rw [hT] at hA ⊢
  have HA : Hid (OrdAt w p q T (ordS z0 L P 0) f w4) := hA
  clear HRF hA g4 k4 K3 O3 hFB hT hs1 hs2 hs3 HL0
  go_wp2_with fail
  go_loopw [10, 11] (fun n i wr => ∃ j : Nat, j ≤ l2 ∧ i = .int .i64 (j : Int) ∧ n = .int .i64 ((dd P j).length : Int) ∧ OrdAt w p q T (ordS z0 L P j) f wr) (fun _ i _ => l2 - (intOf i).toNat)
  case atStart => exact ⟨0, by omega, rfl, rfl, HA.out⟩
  case round =>
    clear HA
    obtain ⟨i, hi, rfl, rfl, hO⟩ := hrel
    by_cases hil : i < l2
    · have hii : (i : Int) < l2 := by omega
      have hdl := dd_len P i
      obtain ⟨n, hn⟩ : ∃ n, (dd P i).length = n := ⟨_, rfl⟩
      have HN : Hid ((dd P i).length = n) := hn
      rw [hn] at hdl ⊢
      have hni : (n : Int) ≤ 40 := by omega
      have HO : Hid (OrdAt w p q T (ordS z0 L P i) f wr) := hO
      have HB : Hid (OrdAt w p q T (ordS z0 L P i) f wr) := hO
      obtain ⟨wo, hwo⟩ : ∃ wo, wr = wo := ⟨_, rfl⟩
      rw [hwo] at HO HB ⊢
      clear hn hO hwo
      go_wp2_with fail
      go_loopw [12, 13, 14, 15] (fun at' kn k j wq => ∃ m : Nat, m ≤ i ∧ j = .int .i64 (m : Int) ∧ at' = .int .i64 (att P i n m : Int) ∧ kn = .bool (decide (P i ∈ dd P m)) ∧ k = .int .i64 ((dd P m).length : Int) ∧ OrdAt w p q T (ordS z0 L P i) f wq) (fun _ _ _ j _ => i - (intOf j).toNat)
      case atStart => exact ⟨0, by omega, rfl, by simp [att, dd], by simp [dd], rfl, HO.out⟩
      case round =>
        clear HO
        obtain ⟨j, hj, rfl, rfl, rfl, rfl, hO⟩ := hrel
        by_cases hji : j < i
        · have hjii : (j : Int) < i := by omega
          have hdj := dd_len P j
          obtain ⟨k, hk⟩ : ∃ k, (dd P j).length = k := ⟨_, rfl⟩
          have HKL : Hid ((dd P j).length = k) := hk
          rw [hk] at hdj ⊢
          have hki : (k : Int) ≤ 40 := by omega
          have HO : Hid (OrdAt w p q T (ordS z0 L P i) f wr) := hO
          obtain ⟨ww, hww⟩ : ∃ ww, wr = ww := ⟨_, rfl⟩
          rw [hww] at HO ⊢
          clear hk hO hww
          go_wp2_with fail
          go_loopw [16, 17] (fun fs m wq => ∃ t : Nat, t ≤ j ∧ m = .int .i64 (t : Int) ∧ fs = .bool (fr P j t) ∧ OrdAt w p q T (ordS z0 L P i) f wq) (fun _ m _ => j - (intOf m).toNat)
          case atStart => exact ⟨0, by omega, rfl, rfl, HO.out⟩
          case round =>
            clear HO
            obtain ⟨t, ht, rfl, rfl, hO⟩ := hrel
            by_cases htj : t < j
            · have htji : (t : Int) < j := by omega
              have hfs : fr P j (t + 1) = (fr P j t && !decide (P t = P j)) := rfl
              cases hB : fr P j t with
              | false =>
                rw [hB] at hfs
                have HFS : Hid (fr P j (t + 1) = false) := hfs
                have HO : Hid (OrdAt w p q T (ordS z0 L P i) f wr) := hO
                clear hfs hB hO
                go_wp2_with fail
                go_quiet (fail)
                go_wp2
                go_roundw
                case rel => exact ⟨t + 1, by omega, by go_num, by rw [HFS.out], OrdAt.same HO.out ((Chg.refl no wr).drewN _)⟩
                case measure => simp [intOf]; omega
              | true =>
                obtain ⟨x, rfl, u0, u1, uf⟩ := HP.out wr hO.chg t (by omega)
                obtain ⟨x', hx', v0, v1, vf⟩ := HP.out wr hO.chg j (by omega)
                cases hx'
                rw [hB] at hfs
                obtain ⟨g1, h1⟩ : ∃ g1, (P t).1 = g1 := ⟨_, rfl⟩
                obtain ⟨d1, h2⟩ : ∃ d1, (P t).2 = d1 := ⟨_, rfl⟩
                obtain ⟨g2, h3⟩ : ∃ g2, (P j).1 = g2 := ⟨_, rfl⟩
                obtain ⟨d2, h4⟩ : ∃ d2, (P j).2 = d2 := ⟨_, rfl⟩
                have hpe : P t = P j ↔ (g1 = g2 ∧ d1 = d2) := by
                  rw [Prod.ext_iff, h1, h2, h3, h4]
                simp only [hpe] at hfs
                rw [h1] at u0
                rw [h2] at u1
                rw [h3] at v0
                rw [h4] at v1
                have HFS : Hid (fr P j (t + 1) = (true && !decide (g1 = g2 ∧ d1 = d2))) := hfs
                have HO : Hid (OrdAt w p q T (ordS z0 L P i) f wr) := hO
                have htl : (t : Int) < l2 := by omega
                have hjl : (j : Int) < l2 := by omega
                clear hfs hB hO h1 h2 h3 h4 hpe uf vf
                obtain ⟨E, hE⟩ : ∃ E, decide (g1 = g2 ∧ d1 = d2) = E := ⟨_, rfl⟩
                have HE : Hid (fr P j (t + 1) = !E) := by
                  show fr P j (t + 1) = !E
                  rw [HFS.out, hE, Bool.true_and]
                clear HFS
                go_wp2_with fail
                go_quiet (fail)
                go_wp2
                go_roundw
                case rel => exact ⟨t + 1, by omega, by go_num, by rw [HE.out], OrdAt.same HO.out ((Chg.refl no wr).drewN _)⟩
                case measure => simp [intOf]; omega
            · obtain rfl : t = j := by omega
              have htji : (t : Int) ≤ (t : Int) := by omega
              have HFR : Hid (fr P t t = decide (P t ∉ dd P t)) := fr_dd P t
              obtain ⟨B, hB⟩ : ∃ B, fr P t t = B := ⟨_, rfl⟩
              rw [hB] at HFR ⊢
              clear hB
              obtain ⟨x, rfl, u0, u1, uf⟩ := HP.out wr hO.chg t (by omega)
              obtain ⟨x', hx', v0, v1, vf⟩ := HP.out wr hO.chg i (by omega)
              cases hx'
              obtain ⟨g1, h1⟩ : ∃ g1, (P t).1 = g1 := ⟨_, rfl⟩
              obtain ⟨d1, h2⟩ : ∃ d1, (P t).2 = d1 := ⟨_, rfl⟩
              obtain ⟨g2, h3⟩ : ∃ g2, (P i).1 = g2 := ⟨_, rfl⟩
              obtain ⟨d2, h4⟩ : ∃ d2, (P i).2 = d2 := ⟨_, rfl⟩
              have hpe : P t = P i ↔ (g1 = g2 ∧ d1 = d2) := by
                rw [Prod.ext_iff, h1, h2, h3, h4]
              rw [h1] at u0
              rw [h2] at u1
              rw [h3] at v0
              rw [h4] at v1
              have htl : (t : Int) < l2 := by omega
              have hil2 : (i : Int) < l2 := by omega
              have HO : Hid (OrdAt w p q T (ordS z0 L P i) f wr) := hO
              have HPE : Hid (P t = P i ↔ (g1 = g2 ∧ d1 = d2)) := hpe
              have hcount : ∀ b : Bool, b = decide (P t ∉ dd P t) → ((if b then k + 1 else k : Nat)) = (dd P (t + 1)).length := by
                intro b hb
                subst hb
                by_cases hm : P t ∈ dd P t
                · rw [dd_step_in hm, HKL.out]
                  simp [hm]
                · rw [dd_step_out hm, List.length_append, HKL.out]
                  simp [hm]
              have HCO : Hid (∀ b : Bool, b = decide (P t ∉ dd P t) → ((if b then k + 1 else k : Nat)) = (dd P (t + 1)).length) := hcount
              clear hcount hO h1 h2 h3 h4 hpe uf vf
              by_cases hkn : P i ∈ dd P t
              · have hat := att_old (n := n) hkn
                rw [decide_eq_true hkn]
                have HAT : Hid (att P i n (t + 1) = att P i n t ∧ decide (P i ∈ dd P (t + 1)) = true) := ⟨hat.1, decide_eq_true hat.2⟩
                obtain ⟨A, hA⟩ : ∃ A, att P i n t = A := ⟨_, rfl⟩
                rw [hA] at HAT ⊢
                clear hat hA hkn
                obtain ⟨E, hE⟩ : ∃ E, decide (g1 = g2 ∧ d1 = d2) = E := ⟨_, rfl⟩
                cases B with
                | true =>
                  have hc := HCO.out true HFR.out
                  simp only [if_true] at hc
                  have HC : Hid ((dd P (t + 1)).length = k + 1) := hc.symm
                  clear hc HCO
                  cases E with
                  | true =>
                    go_wp2_with fail
                    go_quiet (fail)
                    go_wp2
                    go_roundw
                    case rel => exact ⟨t + 1, by omega, by go_num, by rw [HAT.out.1], by rw [HAT.out.2], by rw [HC.out]; go_num, OrdAt.same HO.out ((Chg.refl no wr).drewN _)⟩
                    case measure => simp [intOf]; omega
                  | false =>
                    go_wp2_with fail
                    go_quiet (fail)
                    go_wp2
                    go_roundw
                    case rel => exact ⟨t + 1, by omega, by go_num, by rw [HAT.out.1], by rw [HAT.out.2], by rw [HC.out]; go_num, OrdAt.same HO.out ((Chg.refl no wr).drewN _)⟩
                    case measure => simp [intOf]; omega
                | false =>
                  have hc := HCO.out false HFR.out
                  simp only [Bool.false_eq_true, if_false] at hc
                  have HC : Hid ((dd P (t + 1)).length = k) := hc.symm
                  clear hc HCO
                  cases E with
                  | true =>
                    go_wp2_with fail
                    go_quiet (fail)
                    go_wp2
                    go_roundw
                    case rel => exact ⟨t + 1, by omega, by go_num, by rw [HAT.out.1], by rw [HAT.out.2], by rw [HC.out], OrdAt.same HO.out ((Chg.refl no wr).drewN _)⟩
                    case measure => simp [intOf]; omega
                  | false =>
                    go_wp2_with fail
                    go_quiet (fail)
                    go_wp2
                    go_roundw
                    case rel => exact ⟨t + 1, by omega, by go_num, by rw [HAT.out.1], by rw [HAT.out.2], by rw [HC.out], OrdAt.same HO.out ((Chg.refl no wr).drewN _)⟩
                    case measure => simp [intOf]; omega
              · rw [decide_eq_false hkn]
                by_cases hE : g1 = g2 ∧ d1 = d2
                · have hit := att_hit (n := n) (HPE.out.2 hE) hkn
                  have hBt : B = true := by
                    have e := HFR.out
                    rw [e]
                    apply decide_eq_true
                    rw [HPE.out.2 hE]
                    exact hkn
                  have HAT : Hid (att P i n (t + 1) = k ∧ decide (P i ∈ dd P (t + 1)) = true) := ⟨by rw [hit.1, HKL.out], decide_eq_true hit.2⟩
                  have hc := HCO.out B HFR.out
                  rw [hBt] at hc ⊢
                  simp only [if_true] at hc
                  have HC : Hid ((dd P (t + 1)).length = k + 1) := hc.symm
                  have hE2 : decide (g1 = g2 ∧ d1 = d2) = true := decide_eq_true hE
                  have hna : att P i n t = n := by unfold att; rw [if_neg hkn]
                  rw [hna]
                  clear hc HCO hBt hit hE hna hkn
                  go_wp2_with fail
                  go_quiet (fail)
                  go_wp2
                  go_roundw
                  case rel => exact ⟨t + 1, by omega, by go_num, by rw [HAT.out.1], by rw [HAT.out.2], by rw [HC.out]; go_num, OrdAt.same HO.out ((Chg.refl no wr).drewN _)⟩
                  case measure => simp [intOf]; omega
                · have hmi := att_miss (n := n) (fun e => hE (HPE.out.1 e)) hkn
                  have HAT : Hid (att P i n (t + 1) = n ∧ decide (P i ∈ dd P (t + 1)) = false) := ⟨by rw [hmi.1]; unfold att; rw [if_neg hkn], decide_eq_false hmi.2⟩
                  have hna : att P i n t = n := by unfold att; rw [if_neg hkn]
                  rw [hna]
                  have hE2 : decide (g1 = g2 ∧ d1 = d2) = false := decide_eq_false hE
                  clear hmi hE hna hkn
                  cases B with
                  | true =>
                    have hc := HCO.out true HFR.out
                    simp only [if_true] at hc
                    have HC : Hid ((dd P (t + 1)).length = k + 1) := hc.symm
                    clear hc HCO
                    go_wp2_with fail
                    go_quiet (fail)
                    go_wp2
                    go_roundw
                    case rel => exact ⟨t + 1, by omega, by go_num, by rw [HAT.out.1], by rw [HAT.out.2], by rw [HC.out]; go_num, OrdAt.same HO.out ((Chg.refl no wr).drewN _)⟩
                    case measure => simp [intOf]; omega
                  | false =>
                    have hc := HCO.out false HFR.out
                    simp only [Bool.false_eq_true, if_false] at hc
                    have HC : Hid ((dd P (t + 1)).length = k) := hc.symm
                    clear hc HCO
                    go_wp2_with fail
                    go_quiet (fail)
                    go_wp2
                    go_roundw
                    case rel => exact ⟨t + 1, by omega, by go_num, by rw [HAT.out.1], by rw [HAT.out.2], by rw [HC.out], OrdAt.same HO.out ((Chg.refl no wr).drewN _)⟩
                    case measure => simp [intOf]; omega
        · obtain rfl : j = i := by omega
          have hjii : (j : Int) ≤ (j : Int) := by omega
          obtain ⟨x, rfl, v0, v1, vf⟩ := HP.out wr hO.chg j (by omega)
          have hae : att P j n j = (dd P (j + 1)).idxOf (P j) := by rw [← HN.out]; exact att_end P j
          have hal := att_lt P j
          have hdl2 := dd_len P (j + 1)
          have hask := ordS_ask z0 L P j
          have hok := ordS_ok z0 L P j l1 (by omega) (by omega)
          have HK1 := hO.known (P j).1 (P j).2 vf
          obtain ⟨AT, hAT⟩ : ∃ AT, (dd P (j + 1)).idxOf (P j) = AT := ⟨_, rfl⟩
          obtain ⟨A, hA⟩ : ∃ A, AT * L = A := ⟨_, rfl⟩
          have hpo : (ordS z0 L P (j + 1)).padOf (P j) = padsOf z0 A L := by
            show padsOf z0 ((dd P (j + 1)).idxOf (P j) * L) L = _
            rw [hAT, hA]
          obtain ⟨D, hD⟩ : ∃ D, (dd P (j + 1)).length * L = D := ⟨_, rfl⟩
          have hkn2 : (ordS z0 L P (j + 1)).knows (P j) = true := decide_eq_true ((mem_dd P _ _).2 ⟨j, by omega, rfl⟩)
          have hAL : A + L ≤ 800 := by
            have : (AT + 1) * L ≤ 40 * 20 := Nat.mul_le_mul (by omega) hL
            rw [Nat.add_mul, hA] at this
            omega
          have hmulA : (AT : Int) * (L : Int) = (A : Int) := by rw [← Int.natCast_mul, hA]
          have HPD : Hid (∀ w', OrdAt w p q T (ordS z0 L P j) f w' → Calls Try.prog 19 #[.pointer (some ⟨p, 0, none⟩), nv (P j).1 (P j).2] w' fun e w'' => ∃ v, e = .returned v ∧ OrdAt w p q T (ordS z0 L P (j + 1)) f w'' ∧ Lies (fun _ => True) w'' v ((padsOf z0 A L).map (Value.int .u8))) := by
            intro w' h'
            have := h'.pad hok (P j).1 (P j).2 vf
            rw [show ((P j).1, (P j).2) = P j from rfl, hask, hpo] at this
            exact this
          have HDR : Hid (∀ w', OrdAt w p q T (ordS z0 L P (j + 1)) f w' → w'.cell? ⟨p, 0, none⟩ = some (.pointer (some ⟨q, 0, none⟩)) ∧ q < w'.heap.size ∧ p < w'.heap.size ∧ Calls Try.prog 23 #[.pointer (some ⟨q, 0, none⟩)] w' fun e w'' => e = .returned (.int .i64 (D : Int)) ∧ w'' = w') := by
            intro w' h'
            have := h'.drawn
            rw [show (ordS z0 L P (j + 1)).ks.length * (ordS z0 L P (j + 1)).L = D from hD] at this
            exact this
          have HKA : Hid (∀ w', OrdAt w p q T (ordS z0 L P (j + 1)) f w' → Calls Try.prog 21 #[.pointer (some ⟨p, 0, none⟩), nv (P j).1 (P j).2] w' fun e w'' => e = .returned (.bool true) ∧ OrdAt w p q T (ordS z0 L P (j + 1)) f w'') := by
            intro w' h'
            have := h'.known (P j).1 (P j).2 vf
            rw [show ((P j).1, (P j).2) = P j from rfl, hkn2] at this
            exact this
          rw [show (ordS z0 L P j).knows ((P j).1, (P j).2) = decide (P j ∈ dd P j) from rfl] at HK1
          rw [hae, hAT]
          have hDb : D ≤ 800 := by
            have : (dd P (j + 1)).length * L ≤ 40 * 20 := Nat.mul_le_mul (by omega) hL
            omega
          have HNN : Hid ((dd P (j + 1)).length = if P j ∈ dd P j then n else n + 1) := by
            show (dd P (j + 1)).length = _
            by_cases hm : P j ∈ dd P j
            · rw [if_pos hm, dd_step_in hm, HN.out]
            · rw [if_neg hm, dd_step_out hm, List.length_append, HN.out]
              rfl
          have HD : Hid ((dd P (j + 1)).length * L = D) := hD
          obtain ⟨gj, hgj⟩ : ∃ gj, (P j).1 = gj := ⟨_, rfl⟩
          obtain ⟨dj, hdj⟩ : ∃ dj, (P j).2 = dj := ⟨_, rfl⟩
          rw [hgj] at v0 HK1 HPD HKA
          rw [hdj] at v1 HK1 HPD HKA
          have HGJ : Hid ((P j).1 = gj ∧ (P j).2 = dj) := ⟨hgj, hdj⟩
          have hAi : (A : Int) + L ≤ 800 := by omega
          have hAlt : (A : Int) < M := by omega
          have hDi : (D : Int) ≤ 800 := by omega
          have hATi : (AT : Int) ≤ 40 := by omega
          have hjl2 : (j : Int) < l2 := by omega
          clear hO hae hal hdl2 hask hok hpo hkn2 hAT hA hD hgj hdj vf HB
          by_cases hkn : P j ∈ dd P j
          · have hnn := HNN.out
            rw [if_pos hkn] at hnn
            have hmulN : (n : Int) * (L : Int) = (D : Int) := by rw [← Int.natCast_mul, ← HD.out, hnn]
            rw [decide_eq_true hkn] at HK1 ⊢
            have HNL : Hid ((dd P (j + 1)).length = n) := hnn
            clear hnn HNN HD hkn
            go_wp2_with fail
            refine HK1.mono ?_
            rintro e wa ⟨rfl, Oa⟩
            obtain ⟨x', hx', v0', v1', _⟩ := HP.out wa Oa.chg j (by omega)
            cases hx'
            rw [HGJ.out.1] at v0'
            rw [HGJ.out.2] at v1'
            have HPA := HPD.out wa Oa
            clear HK1 Oa v0 v1
            go_wp2_with fail
            refine HPA.mono ?_
            rintro e wb ⟨vb, rfl, Ob, Lb⟩
            obtain ⟨xb, cb, rfl, _⟩ := Lb.slice
            rw [List.length_map, padsOf_length] at Lb
            simp only [List.length_map, padsOf_length]
            obtain ⟨t0, t1, t2, HDN⟩ := HDR.out wb Ob
            have HPI := Ob.piece A L (M - A) (by have := HFL.out; omega)
            rw [HPC.out A (by omega)] at HPI
            have HBY := bytes_same Lb HPI
            obtain ⟨x'', hx'', v0'', v1'', _⟩ := HP.out wb Ob.chg j (by omega)
            cases hx''
            rw [HGJ.out.1] at v0''
            rw [HGJ.out.2] at v1''
            have HKK := HKA.out wb Ob
            clear HPA v0' v1' Lb HPI Ob
            go_wp2_with fail
            refine HDN.mono ?_
            rintro e wc ⟨rfl, rfl⟩
            clear HDN
            go_wp2_with fail
            refine HBY.mono ?_
            rintro e wd ⟨rfl, rfl⟩
            clear HBY
            go_wp2_with fail
            refine HKK.mono ?_
            rintro e we ⟨rfl, Oe⟩
            clear HKK
            go_wp2
            go_roundw
            case rel => exact ⟨j + 1, by omega, by go_num, by rw [HNL.out], Oe⟩
            case measure => simp [intOf]; omega
          · have hnn := HNN.out
            rw [if_neg hkn] at hnn
            have hmulN : ((n : Int) + 1) * (L : Int) = (D : Int) := by
              rw [← HD.out, hnn]
              push_cast
              rfl
            rw [decide_eq_false hkn] at HK1 ⊢
            have HNL : Hid ((dd P (j + 1)).length = n + 1) := hnn
            clear hnn HNN HD hkn
            go_wp2_with fail
            refine HK1.mono ?_
            rintro e wa ⟨rfl, Oa⟩
            obtain ⟨x', hx', v0', v1', _⟩ := HP.out wa Oa.chg j (by omega)
            cases hx'
            rw [HGJ.out.1] at v0'
            rw [HGJ.out.2] at v1'
            have HPA := HPD.out wa Oa
            clear HK1 Oa v0 v1
            go_wp2_with fail
            refine HPA.mono ?_
            rintro e wb ⟨vb, rfl, Ob, Lb⟩
            obtain ⟨xb, cb, rfl, _⟩ := Lb.slice
            rw [List.length_map, padsOf_length] at Lb
            simp only [List.length_map, padsOf_length]
            obtain ⟨t0, t1, t2, HDN⟩ := HDR.out wb Ob
            have HPI := Ob.piece A L (M - A) (by have := HFL.out; omega)
            rw [HPC.out A (by omega)] at HPI
            have HBY := bytes_same Lb HPI
            obtain ⟨x'', hx'', v0'', v1'', _⟩ := HP.out wb Ob.chg j (by omega)
            cases hx''
            rw [HGJ.out.1] at v0''
            rw [HGJ.out.2] at v1''
            have HKK := HKA.out wb Ob
            clear HPA v0' v1' Lb HPI Ob
            go_wp2_with fail
            refine HDN.mono ?_
            rintro e wc ⟨rfl, rfl⟩
            clear HDN
            go_wp2_with fail
            refine HBY.mono ?_
            rintro e wd ⟨rfl, rfl⟩
            clear HBY
            go_wp2_with fail
            refine HKK.mono ?_
            rintro e we ⟨rfl, Oe⟩
            clear HKK
            go_wp2
            go_roundw
            case rel => exact ⟨j + 1, by omega, by go_num, by rw [HNL.out]; go_num, Oe⟩
            case measure => simp [intOf]; omega
    · obtain rfl : i = l2 := by omega
      have hii : (i : Int) ≤ (i : Int) := by omega
      have K := hO.chg
      clear hO
      go_wp2_with fail
      refine (first_any _).mono ?_
      rintro e wz ⟨rfl, kz⟩
      go_wp2
      go_ret
      exact ⟨rfl, (K.then kz).below⟩

theorem walk (w : World) (a0 : Option Addr) (l0 c0 : Nat) (z0 : List Int) (l : Int) (a2 : Option Addr) (l2 c2 : Nat) (P : Nat → Int × Int)
    (w0 : Lies (Old w) w (.slice a0 l0 c0) (z0.map (Value.int .u8)) ∧ Bytes z0) (k0 : l0 ≤ c0) (w1 : (Lit.int .i64 l).wf = true) (w2 : PairsAt w a2 l2 P) (k2 : l2 ≤ c2) :
    Calls Try.prog 6 #[.slice a0 l0 c0, .int .i64 l, .slice a2 l2 c2] w fun e w' => e = .returned (.bool true) ∧ Below w.heap.size w w' := by
  by_cases hh : 2000 < l0 ∨ l < 1 ∨ 20 < l ∨ 40 < l2
  · exact early w a0 l0 c0 l a2 l2 c2 hh
  · obtain ⟨x, y, e, _⟩ := w0.1.slice
    rw [List.length_map] at e
    cases e
    obtain ⟨L, rfl⟩ := Int.eq_ofNat_of_zero_le (show 0 ≤ l by omega)
    exact late w a0 c0 z0 L a2 l2 c2 P w0.1 w2 (by omega) (by omega) (by omega) (by omega)

theorem own : ownKnob Try.prog.godebug = none := by kernel_rfl
theorem laidOut : laidOutB Try.prog = true := by kernel_rfl

set_option maxRecDepth 100000 in
theorem lifted (os : Os) (started : os.Started) (H : Type) (enc : TypeId × Value → H) :
    ReturnsInHanded {} Try.checked os 6 .any (Rows.sealOrderSpec.pre6 enc Try.prog Try.f6 Rows.sealOrderRow.domain false) (Rows.sealOrderSpec.post enc Try.prog Try.f6 false true false false) := by
  refine returnsInHanded_of_change (C := Try.checked) own started (by kernel_rfl) Try.func6
    (ChangeSpec.witness6 (enc := enc) (C := Try.checked) false ⟨#[], #[.slice none 0 0, .int .i64 0, .slice none 0 0], []⟩ 8 (by kernel_rfl) (by kernel_rfl) (by kernel_rfl) (by kernel_rfl)) ?_
  intro W base args ds gs before hval0 hW hcnd _
  have hval : ∀ (j : Nat) t v, Try.f6.params[j]? = some t → args[j]? = some v → Value.okWide Try.prog W .any base t v := hval0
  have hW' := hW
  obtain ⟨p, q, hA0, hV, rfl, hfz, hnd⟩ := hW
  have hA : DataW.TrodAll enc Try.prog W 0 (fun _ => true) true Try.f6.params.toList args.toList ds p := hA0
  rw [Try.params6] at hA hval
  obtain ⟨v0, vs0, d0, ds0, p0, q0, hargs, rfl, rfl, h0, r0⟩ := trodAll_cons hA
  obtain ⟨v1, vs1, d1, ds1, p1, q1, rfl, rfl, rfl, h1, r1⟩ := trodAll_cons r0
  obtain ⟨v2, vs2, d2, ds2, p2, q2, rfl, rfl, rfl, h2, r2⟩ := trodAll_cons r1
  obtain ⟨rfl, rfl, rfl⟩ := trodAll_nil r2
  obtain rfl : args = #[v0, v1, v2] := by cases args; simp_all
  obtain ⟨rfl, rfl⟩ := trodVars_none hV
  obtain ⟨a0, len0, cap0, rfl⟩ := okWide_slice Try.underlying22 (hval 0 22 v0 rfl rfl)
  have k0 := h0
  have lt0 : ∀ x ∈ p0, x.block < W.heap.size := by obtain ⟨m, hm⟩ := k0; exact DataW.trod_lt m _ _ _ hm
  have c0 : len0 ≤ cap0 := by obtain ⟨m, hm⟩ := k0; exact (open_cap Try.underlying22 hm).1
  obtain ⟨z0, w0⟩ := (by obtain ⟨fuel, hf⟩ := h0; exact open_bytes hf : ∃ z : List Int, Lies (Old W) W (.slice a0 len0 cap0) (z.map (Value.int .u8)) ∧ Bytes z)
  obtain ⟨a1, rfl, rfl, rfl, w1⟩ := open_int Try.underlying3 (hval 1 3 v1 rfl rfl) h1
  obtain ⟨a2, len2, cap2, rfl⟩ := okWide_slice Try.underlying72 (hval 2 72 v2 rfl rfl)
  have k2 := h2
  have lt2 : ∀ x ∈ p2, x.block < W.heap.size := by obtain ⟨m, hm⟩ := k2; exact DataW.trod_lt m _ _ _ hm
  have c2 : len2 ≤ cap2 := by obtain ⟨m, hm⟩ := k2; exact (open_cap Try.underlying72 hm).1
  obtain ⟨P2, w2⟩ := (by obtain ⟨fuel, hf⟩ := h2; exact open_pairs hf : ∃ z : Nat → Int × Int, PairsAt W a2 len2 z)
  clear hA0 hval0
  refine (walk W a0 len0 cap0 z0 a1 a2 len2 cap2 P2 w0 c0 w1 w2 c2).mono fun e W' ⟨he, bel⟩ => ?_
  subst he
  exact ⟨_, rfl, _, _, _, [], _, [], hW', trodAll_mk1 (shut_bool Try.underlying4 _), (trodAll_cons_mk (Below.trod laidOut (by kernel_rfl) (of_decide_eq_true (by kernel_rfl)) k0 bel lt0) (trodAll_cons_mk (shut_int Try.underlying3 w1) (trodAll_cons_mk (Below.trod laidOut (by kernel_rfl) (of_decide_eq_true (by kernel_rfl)) k2 bel lt2) trodAll_mk0))), rfl, bel.frame _, fun h => by cases h⟩

theorem over : Rows.sealOrderRow.holds Try.pinned (OpenSpec.ofChange Rows.sealOrderSpec) :=
  OpenClaim.holds_of_wide 6 Try.f6 rfl rfl rfl rfl rfl rfl rfl ⟨rfl, rfl, rfl, rfl, rfl⟩ rfl rfl rfl rfl rfl (by kernel_rfl) Try.func6 (by kernel_rfl)
    (of_decide_eq_true (by kernel_rfl)) (by unfold Func.isWrapper; first | (rw [if_pos (by decide +kernel)]; kernel_rfl) | (rw [if_neg (by decide +kernel)]; exact ⟨rfl, rfl⟩))
    (fun os started H enc _ => lifted os started H enc)

theorem proved : Rows.SealOrderSaid := over
#print axioms proved
end Go.Proofs.Ytmchjnmmeankgaa.sealOrder
namespace Go.Proofs.Ytmchjnmmeankgaa
theorem sealOrder_holds : Rows.SealOrderSaid := sealOrder.proved
#print axioms sealOrder_holds
end Go.Proofs.Ytmchjnmmeankgaa
