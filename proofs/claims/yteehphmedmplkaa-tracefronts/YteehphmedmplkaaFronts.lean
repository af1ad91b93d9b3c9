/-
  Proved: for every two lists of operations and every number the law TraceFronts returns true and leaves its arguments as they were; no condition.
-/
import Derived.Test.YteehphmedmplkaaFrontsS
import Derived.Deep.CutBlock
import Derived.Below
namespace Go.Proofs.Yteehphmedmplkaa.traceFronts
open Go.ChangeShapes Go.WideShapes Go.ChangeAt Go.RowKit Go.Proofs.Yteehphmedmplkaa.hp Go.Proofs.Yteehphmedmplkaa.md Go.Proofs.Yteehphmedmplkaa.st
set_option linter.unusedVariables false

set_option maxRecDepth 100000 in
set_option maxHeartbeats 16000000 in
theorem walk (w : World) (a0 : Option Addr) (len0 cap0 : Nat) (T : List Rec) (a1 : Option Addr) (len1 cap1 : Nat) (U : List Rec) (cut : Int)
    (A0 : Tra (Old w) w (.slice a0 len0 cap0) T) (c0 : len0 ≤ cap0) (A1 : Tra (Old w) w (.slice a1 len1 cap1) U) (c1 : len1 ≤ cap1) (W2 : (Lit.int .i64 cut).wf = true) :
    Calls Try.prog 7 #[.slice a0 len0 cap0, .slice a1 len1 cap1, .int .i64 cut] w fun e w' => e = .returned (.bool true) ∧ Below w.heap.size w w' := by
  go_enter Try.func7, Try.ntmps7
  go_wp2_with fail
  refine (first_any _).mono ?_
  rintro e w1 ⟨rfl, k1⟩
  have H0 : Hid (Tra (Old w) w1 (.slice a0 len0 cap0) T) := A0.same k1
  have H1 : Hid (Tra (Old w) w1 (.slice a1 len1 cap1) U) := A1.same k1
  have HL : Hid (len0 = T.length ∧ len1 = U.length) := ⟨A0.len, A1.len⟩
  clear A0 A1 W2
  go_upto_block 0 with fail
  go_cut [7] from 8 to 31 (fun v wc => ∃ N : Nat, N ≤ 4000200 ∧ v = .int .i64 (N : Int) ∧ wc = w1)
  case first =>
    go_wp2_with fail
    go_loopw [7, 8] (fun v i wr => ∃ k N : Nat, k ≤ len0 ∧ k ≤ 200 ∧ N ≤ 20001 * k ∧ v = .int .i64 (N : Int) ∧ i = .int .i64 (k : Int) ∧ wr = w1) (fun _ i _ => 200 - (intOf i).toNat)
    case atStart => exact ⟨0, 0, by omega, by omega, by omega, rfl, rfl, rfl⟩
    case round =>
      obtain ⟨k, N, hk1, hk2, hN, rfl, rfl, rfl⟩ := hrel
      by_cases hkl : k < len0
      · have hkli : (k : Int) < len0 := by omega
        by_cases hk3 : k < 200
        · have hk3i : (k : Int) < 200 := by omega
          obtain ⟨x, ab, cb, rfl, hx, hv, e0, e1, e2, l1⟩ := H0.out.at k (by rw [← HL.out.1]; exact hkl)
          obtain ⟨L, hL⟩ : ∃ L, (T.getD k dR).zs.length = L := ⟨_, rfl⟩
          rw [hL] at e2
          obtain ⟨mL, hmL, bL⟩ : ∃ mL : Nat, (if (20001 : Int) < (L : Int) then (20001 : Int) else (L : Int)) = mL ∧ mL ≤ 20001 := by
            by_cases h : (20001 : Int) < L
            · exact ⟨20001, by rw [if_pos h]; rfl, by omega⟩
            · exact ⟨L, by rw [if_neg h], by omega⟩
          clear l1 hv hL e0 e1
          go_wp2
          go_roundw
          case rel => exact ⟨k + 1, N + mL, by omega, by omega, by omega, by go_num, by go_num, by first | rfl | trivial⟩
          case measure => simp [intOf]; omega
        · have hk3i : (200 : Int) ≤ k := by omega
          go_wp2
          go_meet
          case rel => exact ⟨N, by omega, rfl, rfl⟩
      · have hkli : (len0 : Int) ≤ k := by omega
        go_wp2
        go_meet
        case rel => exact ⟨N, by omega, rfl, rfl⟩
  case rest =>
    obtain ⟨N, hN, rfl, rfl⟩ := hcut
    go_upto_block 2 with fail
    go_cut [7] from 8 to 50 (fun v wc' => ∃ N : Nat, N ≤ 8000400 ∧ v = .int .i64 (N : Int) ∧ wc' = wc)
    case first =>
      go_wp2_with fail
      go_loopw [7, 9] (fun v i wr => ∃ k M : Nat, k ≤ len1 ∧ k ≤ 200 ∧ M ≤ 4000200 + 20001 * k ∧ v = .int .i64 (M : Int) ∧ i = .int .i64 (k : Int) ∧ wr = wc) (fun _ i _ => 200 - (intOf i).toNat)
      case atStart => exact ⟨0, N, by omega, by omega, by omega, rfl, rfl, rfl⟩
      case round =>
        obtain ⟨k, M, hk1, hk2, hM, rfl, rfl, rfl⟩ := hrel
        by_cases hkl : k < len1
        · have hkli : (k : Int) < len1 := by omega
          by_cases hk3 : k < 200
          · have hk3i : (k : Int) < 200 := by omega
            obtain ⟨x, ab, cb, rfl, hx, hv, e0, e1, e2, l1⟩ := H1.out.at k (by rw [← HL.out.2]; exact hkl)
            obtain ⟨L, hL⟩ : ∃ L, (U.getD k dR).zs.length = L := ⟨_, rfl⟩
            rw [hL] at e2
            obtain ⟨mL, hmL, bL⟩ : ∃ mL : Nat, (if (20001 : Int) < (L : Int) then (20001 : Int) else (L : Int)) = mL ∧ mL ≤ 20001 := by
              by_cases h : (20001 : Int) < L
              · exact ⟨20001, by rw [if_pos h]; rfl, by omega⟩
              · exact ⟨L, by rw [if_neg h], by omega⟩
            clear l1 hv hL e0 e1
            go_wp2
            go_roundw
            case rel => exact ⟨k + 1, M + mL, by omega, by omega, by omega, by go_num, by go_num, by first | rfl | trivial⟩
            case measure => simp [intOf]; omega
          · have hk3i : (200 : Int) ≤ k := by omega
            go_wp2
            go_meet
            case rel => exact ⟨M, by omega, rfl, rfl⟩
        · have hkli : (len1 : Int) ≤ k := by omega
          go_wp2
          go_meet
          case rel => exact ⟨M, by omega, rfl, rfl⟩
    case rest =>
      clear N hN
      obtain ⟨N, hN, rfl, rfl⟩ := hcut
      by_cases hg : len0 ≤ 200 ∧ len1 ≤ 200 ∧ N ≤ 20000 ∧ 0 ≤ cut ∧ cut ≤ len0
      · obtain ⟨g0, g1, g2, g3, g4⟩ := hg
        obtain ⟨ct, rfl⟩ := Int.eq_ofNat_of_zero_le g3
        have i0 : (len0 : Int) ≤ 200 := by omega
        have i1 : (len1 : Int) ≤ 200 := by omega
        have i2 : (N : Int) ≤ 20000 := by omega
        have i3 : (0 : Int) ≤ ct := by omega
        have i4 : (ct : Int) ≤ len0 := g4
        have b0 : len0 ≤ 1000000 := by omega
        have b1 : len1 ≤ 1000000 := by omega
        clear g0 g1 g2 g3 g4
        go_wp2_with fail
        refine (common_ops H0.out H1.out b0 b1).mono ?_
        rintro e w4 ⟨rfl, k4⟩
        have D0 : Hid (∀ w', Chg no w4 w' → Tra (Old w) w' (.slice a0 len0 cap0) T) := fun w' c => (H0.out.same k4).same c
        have D1 : Hid (∀ w', Chg no w4 w' → Tra (Old w) w' (.slice a1 len1 cap1) U) := fun w' c => (H1.out.same k4).same c
        have K4 := k1.then k4
        have HQ : Hid (comm (keys T) (keys U) ≤ len0 ∧ comm (keys T) (keys U) ≤ len1) := by have := fronts_le T U; rw [← HL.out.1, ← HL.out.2] at this; exact this
        have HS : Hid (decide (keys (T.take (comm (keys T) (keys U))) = keys (U.take (comm (keys T) (keys U)))) = true) := fronts_same T U
        have HW : Hid (decide (keys T = keys U) = (decide (comm (keys T) (keys U) = len0) && decide (comm (keys T) (keys U) = len1))) := by have := fronts_whole T U; rw [← HL.out.1, ← HL.out.2] at this; exact this
        have HP : Hid (comm (keys T) (keys U) < len0 → comm (keys T) (keys U) < len1 → sm (T.getD (comm (keys T) (keys U)) dR) (U.getD (comm (keys T) (keys U)) dR) = false) := by have := fronts_stop T U; rw [← HL.out.1, ← HL.out.2] at this; exact this
        have HY : Hid (comm (keys U) (keys T) = comm (keys T) (keys U)) := comm_symm _ _
        obtain ⟨q, hq⟩ : ∃ q, comm (keys T) (keys U) = q := ⟨_, rfl⟩
        rw [hq] at HQ HS HW HP HY
        simp only [hq]
        have q0 : q ≤ len0 := HQ.out.1
        have q1 : q ≤ len1 := HQ.out.2
        have q0i : (q : Int) ≤ len0 := by omega
        have q1i : (q : Int) ≤ len1 := by omega
        clear hq H0 H1 k4 k1
        go_upto_region 15 with fail
        go_cut [123] from 51 to 123 (fun v wc' => v = .bool false ∧ Chg no w4 wc')
        case first =>
          have z0 : ¬ ((q : Int) < 0) := by omega
          have cc0 : (q : Int) ≤ cap0 := by omega
          have cc1 : (q : Int) ≤ cap1 := by omega
          have cn0 : q ≤ cap0 := by omega
          have cn1 : q ≤ cap1 := by omega
          have d0 : decide (len0 < q) = false := by simp; omega
          have d1 : decide (len1 < q) = false := by simp; omega
          obtain ⟨pG, hpG⟩ : ∃ pG : World → Prop, ∀ w', pG w' ↔ Chg no w4 w' := ⟨_, fun _ => Iff.rfl⟩
          have iG : Nonempty (far.InC pG) := ⟨⟨w4, (hpG _).2 (Chg.refl no w4)⟩⟩
          have HG : Hid (∀ w', pG w' ↔ Chg no w4 w') := hpG
          clear hpG
          refine far.region_farM (fun κ w' => pG w') [17, 28, 34] (by kernel_rfl) (by kernel_rfl) ((HG.out _).2 (Chg.refl no w4).drew) ?_
          intro L e1' e2' e3'
          refine far.farO_stretch pG 17 0 0 e1' e2' e3' (by kernel_rfl) (by kernel_rfl) (fun κ w' hk1 hk2 hC => hC) ?_
          simp only [List.take_succ_cons, List.take_zero, List.drop_succ_cons, List.drop_zero, Nat.reduceAdd]
          repeat (go_big_quiet_step (fail))
          refine wpQuiet_nil ?_
          refine far.farO_enter e1' e2' 0 rfl rfl 37 #[.slice a1 len1 cap1, .slice a0 len0 cap0] (by kernel_rfl) (by kernel_rfl) ?_
          refine (common_ops (D1.out _ (Chg.refl no w4).drew) (D0.out _ (Chg.refl no w4).drew) b1 b0).mono ?_
          rintro e w5 ⟨rfl, k5⟩
          have C5 := (Chg.refl no w4).drew.then k5
          rw [HY.out]
          refine ⟨_, rfl, (HG.out _).2 C5, ?_⟩
          simp only [Act.put, List.setIfInBounds_toArray, List.set_cons_succ, List.set_cons_zero, Nat.reduceAdd]
          refine far.farO_stretch pG 10 0 1 e1' e2' e3' (by kernel_rfl) (by kernel_rfl) (fun κ w' hk1 hk2 hC => hC) ?_
          simp only [List.take_succ_cons, List.take_zero, List.drop_succ_cons, List.drop_zero, Nat.reduceAdd]
          repeat (go_big_quiet_step (fail))
          refine wpQuiet_nil ?_
          refine far.farO_enter e1' e2' 1 rfl rfl 36 #[.slice a0 q cap0, .slice a1 q cap1] (by kernel_rfl) (by kernel_rfl) ?_
          have HE := equal_ops ((D0.out _ C5).cut q cap0 q0 cn0) ((D1.out _ C5).cut q cap1 q1 cn1) (Nat.le_trans q0 b0)
          rw [HS.out] at HE
          refine HE.mono ?_
          rintro e w6 ⟨rfl, k6⟩
          have C6 := C5.then k6
          refine ⟨_, rfl, (HG.out _).2 C6, ?_⟩
          simp only [Act.put, List.setIfInBounds_toArray, List.set_cons_succ, List.set_cons_zero, Nat.reduceAdd]
          refine far.farO_stretch pG 5 0 2 e1' e2' e3' (by kernel_rfl) (by kernel_rfl) (fun κ w' hk1 hk2 hC => hC) ?_
          simp only [List.take_succ_cons, List.take_zero, List.drop_succ_cons, List.drop_zero, Nat.reduceAdd]
          repeat (go_big_quiet_step (fail))
          refine wpQuiet_nil ?_
          refine far.farO_enter e1' e2' 2 rfl rfl 36 #[.slice a0 len0 cap0, .slice a1 len1 cap1] (by kernel_rfl) (by kernel_rfl) ?_
          have HE2 := equal_ops (D0.out _ C6) (D1.out _ C6) b0
          rw [HW.out] at HE2
          refine HE2.mono ?_
          rintro e w7 ⟨rfl, k7⟩
          have C7 := C6.then k7
          refine ⟨_, rfl, (HG.out _).2 C7, ?_⟩
          simp only [Act.put, List.setIfInBounds_toArray, List.set_cons_succ, List.set_cons_zero, Nat.reduceAdd]
          clear HE HE2 k5 k6 k7 D0 D1 HS HW HY HQ HP C5 C6
          by_cases p0 : q = len0
          · by_cases p1 : q = len1
            · subst p0
              subst p1
              refine far.farO_stretch pG 12 0 3 e1' e2' e3' (by kernel_rfl) (by kernel_rfl) (fun κ w' hk1 hk2 hC => hC) ?_
              simp only [List.take_succ_cons, List.take_zero, List.drop_succ_cons, List.drop_zero, Nat.reduceAdd]
              repeat (go_big_quiet_step (fail))
              refine wpQuiet_nil ?_
              refine far.farO_nil ?_
              go_wp2
              go_meet
              case rel => exact ⟨by simp, C7⟩
            · subst p0
              have d3 : decide (q = len1) = false := by simpa using p1
              have d4 : ((q : Int) == (len1 : Int)) = false := by simp; omega
              refine far.farO_stretch pG 12 0 3 e1' e2' e3' (by kernel_rfl) (by kernel_rfl) (fun κ w' hk1 hk2 hC => hC) ?_
              simp only [List.take_succ_cons, List.take_zero, List.drop_succ_cons, List.drop_zero, Nat.reduceAdd]
              repeat (go_big_quiet_step (fail))
              refine wpQuiet_nil ?_
              refine far.farO_nil ?_
              go_wp2
              go_meet
              case rel => exact ⟨by simp, C7⟩
          · have d3 : decide (q = len0) = false := by simpa using p0
            have d4 : ((q : Int) == (len0 : Int)) = false := by simp; omega
            refine far.farO_stretch pG 12 0 3 e1' e2' e3' (by kernel_rfl) (by kernel_rfl) (fun κ w' hk1 hk2 hC => hC) ?_
            simp only [List.take_succ_cons, List.take_zero, List.drop_succ_cons, List.drop_zero, Nat.reduceAdd]
            repeat (go_big_quiet_step (fail))
            refine wpQuiet_nil ?_
            refine far.farO_nil ?_
            go_wp2
            go_meet
            case rel => exact ⟨by simp, C7⟩
        case rest =>
          obtain ⟨rfl, C⟩ := hcut
          clear HS HW HY HQ
          go_upto_region 17 with fail
          go_cut [144] from 51 to 144 (fun v wc'' => v = .bool false ∧ Chg no w4 wc'')
          case first =>
            by_cases p0 : q < len0
            · have p0i : (q : Int) < len0 := by omega
              by_cases p1 : q < len1
              · have p1i : (q : Int) < len1 := by omega
                have TU := two_of (D0.out _ C) (D1.out _ C)
                obtain ⟨x, y, ab, cb, bb, db, rfl, rfl, e0, e1, e2, f0, f1, f2, S1, _⟩ := TU q _ (Chg.refl no _) (by rw [← HL.out.1]; exact p0) (by rw [← HL.out.2]; exact p1)
                rw [HP.out p0 p1] at S1
                obtain ⟨⟨k1, a1, v1, z1⟩, hX⟩ : ∃ X, T.getD q dR = X := ⟨_, rfl⟩
                obtain ⟨⟨k2, a2', v2, z2⟩, hY⟩ : ∃ X, U.getD q dR = X := ⟨_, rfl⟩
                rw [hX] at e0 e1 e2 S1
                rw [hY] at f0 f1 f2 S1
                simp only at e0 e1 e2 f0 f1 f2
                have HSS : Hid (∀ w'', Chg no wc w'' → Calls Try.prog 34 #[.agg #[.int .i64 k1, .int .i64 a1, .slice ab z1.length cb], .agg #[.int .i64 k2, .int .i64 a2', .slice bb z2.length db]] w'' fun e w3 => e = .returned (.bool false) ∧ Chg no w'' w3) := S1
                obtain ⟨pG, hpG⟩ : ∃ pG : World → Prop, ∀ w', pG w' ↔ Chg no wc w' := ⟨_, fun _ => Iff.rfl⟩
                have hx0 : ∀ t : far.InC pG, t.w.cell? (x.add (q * 3)) = some (.int .i64 k1) := fun t => ((hpG _).1 t.h).cell e0 id
                have hx1 : ∀ t : far.InC pG, t.w.cell? ⟨(x.add (q * 3)).block, (x.add (q * 3)).off + 1, none⟩ = some (.int .i64 a1) := fun t => ((hpG _).1 t.h).cell e1 id
                have hx2 : ∀ t : far.InC pG, t.w.cell? ⟨(x.add (q * 3)).block, (x.add (q * 3)).off + 2, none⟩ = some (.slice ab z1.length cb) := fun t => ((hpG _).1 t.h).cell e2 id
                have hy0 : ∀ t : far.InC pG, t.w.cell? (y.add (q * 3)) = some (.int .i64 k2) := fun t => ((hpG _).1 t.h).cell f0 id
                have hy1 : ∀ t : far.InC pG, t.w.cell? ⟨(y.add (q * 3)).block, (y.add (q * 3)).off + 1, none⟩ = some (.int .i64 a2') := fun t => ((hpG _).1 t.h).cell f1 id
                have hy2 : ∀ t : far.InC pG, t.w.cell? ⟨(y.add (q * 3)).block, (y.add (q * 3)).off + 2, none⟩ = some (.slice bb z2.length db) := fun t => ((hpG _).1 t.h).cell f2 id
                have iG : Nonempty (far.InC pG) := ⟨⟨wc, (hpG _).2 (Chg.refl no wc)⟩⟩
                have HYG : Hid (∀ w', pG w' ↔ Chg no wc w') := hpG
                clear hpG e0 e1 e2 f0 f1 f2 hX hY S1 TU D0 D1 HP HL
                refine far.region_farM (fun κ w' => pG w') [19] (by kernel_rfl) (by kernel_rfl) ((HYG.out _).2 (Chg.refl no wc).drew) ?_
                intro L e1' e2' e3'
                refine far.farO_stretch pG 19 0 0 e1' e2' e3' (by kernel_rfl) (by kernel_rfl) (fun κ w' hk1 hk2 hC => hC) ?_
                simp only [List.take_succ_cons, List.take_zero, List.drop_succ_cons, List.drop_zero, Nat.reduceAdd]
                repeat (go_big_quiet_step (fail))
                refine wpQuiet_nil ?_
                refine far.farO_enter e1' e2' 0 rfl rfl 34 #[.agg #[.int .i64 k1, .int .i64 a1, .slice ab z1.length cb], .agg #[.int .i64 k2, .int .i64 a2', .slice bb z2.length db]] (by kernel_rfl) (by kernel_rfl) ?_
                refine (HSS.out _ (Chg.refl no wc).drew).mono ?_
                rintro e w5 ⟨rfl, k5⟩
                have C5 := (Chg.refl no wc).drew.then k5
                refine ⟨_, rfl, (HYG.out _).2 C5, ?_⟩
                simp only [Act.put, List.setIfInBounds_toArray, List.set_cons_succ, List.set_cons_zero, Nat.reduceAdd]
                refine far.farO_stretch pG 1 1 1 e1' e2' e3' (by kernel_rfl) (by kernel_rfl) (fun κ w' hk1 hk2 hC => hC) ?_
                simp only [List.take_succ_cons, List.take_zero, List.drop_succ_cons, List.drop_zero, Nat.reduceAdd]
                repeat (go_big_quiet_step (fail))
                refine wpQuiet_nil ?_
                refine far.farO_nil ?_
                go_wp2
                go_meet
                case rel => exact ⟨rfl, C.then C5⟩
              · have d0 : decide (q < len1) = false := by simp; omega
                clear D0 D1 HP HL
                go_quiet (fail)
                go_wp2
                go_meet
                case rel => exact ⟨rfl, C.drewN _⟩
            · have d0 : decide (q < len0) = false := by simp; omega
              clear D0 D1 HP HL
              go_quiet (fail)
              go_wp2
              go_meet
              case rel => exact ⟨rfl, C.drewN _⟩
          case rest =>
            clear C
            obtain ⟨rfl, C⟩ := hcut
            have cn : ct ≤ len0 := by omega
            have cc : (ct : Int) ≤ cap0 := by omega
            have cc' : ct ≤ cap0 := by omega
            have HCT : Hid (comm (keys T) (keys (T.take ct)) = ct) := fronts_cut T ct (by rw [← HL.out.1]; exact cn)
            have HH : Hid (((hits [1] T : Nat) : Int) + ((hits [2] T : Nat) : Int) = ((hits [1, 2] T : Nat) : Int) ∧ hits [1] T ≤ 200 ∧ hits [2] T ≤ 200) := by
              have := hits_two T
              have := hits_le [1] T
              have := hits_le [2] T
              have := HL.out.1
              exact ⟨by omega, by omega, by omega⟩
            have HN : Hid (hits [] T = len0) := by rw [HL.out.1]; exact hits_none T
            go_wp2_with fail
            refine (first_any _).mono ?_
            rintro e w5 ⟨rfl, k5⟩
            have C5 := C.then k5
            go_wp2_with fail
            have HC1 := common_ops (D0.out _ C5) ((D0.out _ C5).cut ct cap0 cn cc') b0 (Nat.le_trans cn b0)
            rw [HCT.out] at HC1
            refine HC1.mono ?_
            rintro e w6 ⟨rfl, k6⟩
            have C6 := C5.then k6
            clear HC1
            go_wp2_with fail
            have C7 := C6.alloc (.cells #[.int .i64 1] 3)
            refine (count_ops (ks := [1]) (c' := 1) (D0.out _ C7) (nums_of (lies_new [.int .i64 1] 3)) b0 (by decide)).mono ?_
            rintro e w8 ⟨rfl, k8⟩
            have C8 := C7.then k8
            go_wp2_with fail
            have C9 := C8.alloc (.cells #[.int .i64 2] 3)
            refine (count_ops (ks := [2]) (c' := 1) (D0.out _ C9) (nums_of (lies_new [.int .i64 2] 3)) b0 (by decide)).mono ?_
            rintro e wa ⟨rfl, ka⟩
            have Ca := C9.then ka
            obtain ⟨h1, h2, h3⟩ := HH.out
            obtain ⟨n1, hn1⟩ : ∃ n, hits [1] T = n := ⟨_, rfl⟩
            obtain ⟨n2, hn2⟩ : ∃ n, hits [2] T = n := ⟨_, rfl⟩
            rw [hn1, hn2] at h1
            rw [hn1] at h2
            rw [hn2] at h3
            simp only [hn1, hn2]
            clear hn1 hn2 HH
            go_wp2_with fail
            have Cb := Ca.alloc (.cells #[.int .i64 1, .int .i64 2] 3)
            have HC2 := count_ops (ks := [1, 2]) (c' := 2) (D0.out _ Cb) (nums_of (lies_new [.int .i64 1, .int .i64 2] 3)) b0 (by decide)
            rw [← h1] at HC2
            refine HC2.mono ?_
            rintro e wd ⟨rfl, kd⟩
            have Cd := Cb.then kd
            clear HC2
            go_wp2_with fail
            have HC3 := count_ops (ks := []) (b := none) (n' := 0) (c' := 0) (D0.out _ Cd) ⟨rfl, fun i w' c hi => by simp at hi⟩ b0 (by decide)
            rw [HN.out] at HC3
            refine HC3.mono ?_
            rintro e we ⟨rfl, ke⟩
            have Ce := Cd.then ke
            go_wp2
            go_ret
            exact ⟨ret_bool (by simp), (K4.then Ce).below⟩
      · have hc : (200 : Int) < len0 ∨ ((len0 : Int) ≤ 200 ∧ (200 : Int) < len1) ∨ ((len0 : Int) ≤ 200 ∧ (len1 : Int) ≤ 200 ∧ (20000 : Int) < N) ∨ ((len0 : Int) ≤ 200 ∧ (len1 : Int) ≤ 200 ∧ (N : Int) ≤ 20000 ∧ cut < 0) ∨ ((len0 : Int) ≤ 200 ∧ (len1 : Int) ≤ 200 ∧ (N : Int) ≤ 20000 ∧ 0 ≤ cut ∧ (len0 : Int) < cut) := by omega
        clear hg H0 H1 HL
        rcases hc with h1 | ⟨h1, h2⟩ | ⟨h1, h2, h3⟩ | ⟨h1, h2, h3, h4⟩ | ⟨h1, h2, h3, h4, h5⟩
        all_goals
          go_wp2_with fail
          refine (first_any _).mono ?_
          rintro e w2 ⟨rfl, k2⟩
          go_wp2
          go_ret
          exact ⟨rfl, (k1.then k2).below⟩

theorem own : ownKnob Try.prog.godebug = none := by kernel_rfl
theorem laidOut : laidOutB Try.prog = true := by kernel_rfl

set_option maxRecDepth 100000 in
theorem lifted (os : Os) (started : os.Started) (H : Type) (enc : TypeId × Value → H) :
    ReturnsInHanded {} Try.checked os 7 .any (Rows.traceFrontsSpec.pre6 enc Try.prog Try.f7 Rows.traceFrontsRow.domain false) (Rows.traceFrontsSpec.post enc Try.prog Try.f7 false true false false) := by
  refine returnsInHanded_of_change (C := Try.checked) own started (by kernel_rfl) Try.func7
    (ChangeSpec.witness6 (enc := enc) (C := Try.checked) false ⟨#[], #[.slice none 0 0, .slice none 0 0, .int .i64 0], []⟩ 8 (by kernel_rfl) (by kernel_rfl) (by kernel_rfl) (by kernel_rfl)) ?_
  intro W base args ds gs before hval0 hW hcnd _
  have hval : ∀ (j : Nat) t v, Try.f7.params[j]? = some t → args[j]? = some v → Value.okWide Try.prog W .any base t v := hval0
  have hW' := hW
  obtain ⟨p, q, hA0, hV, rfl, hfz, hnd⟩ := hW
  have hA : DataW.TrodAll enc Try.prog W 0 (fun _ => true) true Try.f7.params.toList args.toList ds p := hA0
  rw [Try.params7] at hA hval
  obtain ⟨v0, vs0, d0, ds0, p0, q0, hargs, rfl, rfl, h0, r0⟩ := trodAll_cons hA
  obtain ⟨v1, vs1, d1, ds1, p1, q1, rfl, rfl, rfl, h1, r1⟩ := trodAll_cons r0
  obtain ⟨v2, vs2, d2, ds2, p2, q2, rfl, rfl, rfl, h2, r2⟩ := trodAll_cons r1
  obtain ⟨rfl, rfl, rfl⟩ := trodAll_nil r2
  obtain rfl : args = #[v0, v1, v2] := by cases args; simp_all
  obtain ⟨rfl, rfl⟩ := trodVars_none hV
  obtain ⟨a0, len0, cap0, rfl⟩ := okWide_slice Try.underlying42 (hval 0 42 v0 rfl rfl)
  have k0 := h0
  have lt0 : ∀ x ∈ p0, x.block < W.heap.size := by obtain ⟨m, hm⟩ := k0; exact DataW.trod_lt m _ _ _ hm
  have c0 : len0 ≤ cap0 := by obtain ⟨m, hm⟩ := k0; exact (open_cap Try.underlying42 hm).1
  obtain ⟨T0, w0⟩ := (by obtain ⟨fuel, hf⟩ := h0; exact open_recs hf : ∃ z : List Rec, Tra (Old W) W (.slice a0 len0 cap0) z)
  obtain ⟨a1, len1, cap1, rfl⟩ := okWide_slice Try.underlying42 (hval 1 42 v1 rfl rfl)
  have k1 := h1
  have lt1 : ∀ x ∈ p1, x.block < W.heap.size := by obtain ⟨m, hm⟩ := k1; exact DataW.trod_lt m _ _ _ hm
  have c1 : len1 ≤ cap1 := by obtain ⟨m, hm⟩ := k1; exact (open_cap Try.underlying42 hm).1
  obtain ⟨T1, w1⟩ := (by obtain ⟨fuel, hf⟩ := h1; exact open_recs hf : ∃ z : List Rec, Tra (Old W) W (.slice a1 len1 cap1) z)
  obtain ⟨a2, rfl, rfl, rfl, w2⟩ := open_int Try.underlying3 (hval 2 3 v2 rfl rfl) h2
  clear hA0 hval0
  refine (walk W a0 len0 cap0 T0 a1 len1 cap1 T1 a2 w0 c0 w1 c1 w2).mono fun e W' ⟨he, bel⟩ => ?_
  subst he
  exact ⟨_, rfl, _, _, _, [], _, [], hW', trodAll_mk1 (shut_bool Try.underlying4 _), (trodAll_cons_mk (Below.trod laidOut (by kernel_rfl) (of_decide_eq_true (by kernel_rfl)) k0 bel lt0) (trodAll_cons_mk (Below.trod laidOut (by kernel_rfl) (of_decide_eq_true (by kernel_rfl)) k1 bel lt1) (trodAll_cons_mk (shut_int Try.underlying3 w2) trodAll_mk0))), rfl, bel.frame _, fun h => by cases h⟩

theorem over : Rows.traceFrontsRow.holds Try.pinned (OpenSpec.ofChange Rows.traceFrontsSpec) :=
  OpenClaim.holds_of_wide 7 Try.f7 rfl rfl rfl rfl rfl rfl rfl ⟨rfl, rfl, rfl, rfl, rfl⟩ rfl rfl rfl rfl rfl (by kernel_rfl) Try.func7 (by kernel_rfl)
    (of_decide_eq_true (by kernel_rfl)) (by unfold Func.isWrapper; first | (rw [if_pos (by decide +kernel)]; kernel_rfl) | (rw [if_neg (by decide +kernel)]; exact ⟨rfl, rfl⟩))
    (fun os started H enc _ => lifted os started H enc)

theorem proved : Rows.TraceFrontsSaid := over
end Go.Proofs.Yteehphmedmplkaa.traceFronts
namespace Go.Proofs.Yteehphmedmplkaa
theorem traceFronts_holds : Rows.TraceFrontsSaid := traceFronts.proved
#print axioms traceFronts_holds
end Go.Proofs.Yteehphmedmplkaa
