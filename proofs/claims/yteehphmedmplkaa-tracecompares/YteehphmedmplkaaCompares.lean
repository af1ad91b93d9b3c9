/-
  Proved: for every two lists of operations and every list of kinds the law TraceCompares returns true and leaves its arguments as they were; no condition.
-/
import Derived.Test.YteehphmedmplkaaOpen
import Derived.Deep.CutBlock
import Derived.Below
namespace Go.Proofs.Yteehphmedmplkaa.traceCompares
open Go.ChangeShapes Go.WideShapes Go.ChangeAt Go.RowKit Go.Proofs.Yteehphmedmplkaa.hp Go.Proofs.Yteehphmedmplkaa.md Go.Proofs.Yteehphmedmplkaa.st
set_option linter.unusedVariables false

set_option maxRecDepth 100000 in
set_option maxHeartbeats 16000000 in
theorem walk (w : World) (a0 : Option Addr) (len0 cap0 : Nat) (T : List Rec) (a1 : Option Addr) (len1 cap1 : Nat) (U : List Rec) (a2 : Option Addr) (len2 cap2 : Nat) (ks : List Int)
    (A0 : Tra (Old w) w (.slice a0 len0 cap0) T) (c0 : len0 ≤ cap0) (A1 : Tra (Old w) w (.slice a1 len1 cap1) U) (c1 : len1 ≤ cap1) (A2 : Lies (Old w) w (.slice a2 len2 cap2) (ks.map (Value.int .i64))) (c2 : len2 ≤ cap2) :
    Calls Try.prog 4 #[.slice a0 len0 cap0, .slice a1 len1 cap1, .slice a2 len2 cap2] w fun e w' => e = .returned (.bool true) ∧ Below w.heap.size w w' := by
  go_enter Try.func4, Try.ntmps4
  go_wp2_with fail
  refine (first_any _).mono ?_
  rintro e w1 ⟨rfl, k1⟩
  have H0 : Hid (Tra (Old w) w1 (.slice a0 len0 cap0) T) := A0.same k1
  have H1 : Hid (Tra (Old w) w1 (.slice a1 len1 cap1) U) := A1.same k1
  have HK : Hid (Lies (Old w) w1 (.slice a2 len2 cap2) (ks.map (Value.int .i64))) := A2.chg k1 (fun _ _ h => h)
  have HL : Hid (len0 = T.length ∧ len1 = U.length) := ⟨A0.len, A1.len⟩
  clear A0 A1 A2 c0 c1 c2
  go_upto_block 0 with fail
  go_cut [7] from 8 to 32 (fun v wc => ∃ N : Nat, N ≤ 4000200 ∧ v = .int .i64 (N : Int) ∧ wc = w1)
  case first =>
    go_wp2_with fail
    go_loopw [7, 8] (fun v i wr => ∃ k N : Nat, k ≤ len0 ∧ k ≤ 200 ∧ N ≤ 20001 * k ∧ v = .int .i64 (N : Int) ∧ i = .int .i64 (k : Int) ∧ wr = w1) (fun _ i _ => 200 - (intOf i).toNat)
    case atStart => exact ⟨0, 0, by omega, by omega, by omega, rfl, rfl, rfl⟩
    case round =>
      obtain ⟨k, N, hk1, hk2, hN, rfl, rfl, rfl⟩ := hrel
      by_cases hkl : k < len0
      · have hkli : (k : Int) < len0 := by omega
        by_cases hk3 : k < 200
        · have hk3i : (k : Int) < 200 := by omega
          obtain ⟨x, ab, cb, rfl, hx, hv, e0, e1, e2, l1⟩ := H0.out.at k (by rw [← HL.out.1]; exact hkl)
          obtain ⟨L, hL⟩ : ∃ L, (T.getD k dR).zs.length = L := ⟨_, rfl⟩
          rw [hL] at e2
          obtain ⟨mL, hmL, bL⟩ : ∃ mL : Nat, (if (20001 : Int) < (L : Int) then (20001 : Int) else (L : Int)) = mL ∧ mL ≤ 20001 := by
            by_cases h : (20001 : Int) < L
            · exact ⟨20001, by rw [if_pos h]; rfl, by omega⟩
            · exact ⟨L, by rw [if_neg h], by omega⟩
          clear l1 hv hL e0 e1
          go_wp2
          go_roundw
          case rel => exact ⟨k + 1, N + mL, by omega, by omega, by omega, by go_num, by go_num, by first | rfl | trivial⟩
          case measure => simp [intOf]; omega
        · have hk3i : (200 : Int) ≤ k := by omega
          go_wp2
          go_meet
          case rel => exact ⟨N, by omega, rfl, rfl⟩
      · have hkli : (len0 : Int) ≤ k := by omega
        go_wp2
        go_meet
        case rel => exact ⟨N, by omega, rfl, rfl⟩
  case rest =>
    obtain ⟨N, hN, rfl, rfl⟩ := hcut
    go_upto_block 2 with fail
    go_cut [7] from 8 to 51 (fun v wc' => ∃ N : Nat, N ≤ 8000400 ∧ v = .int .i64 (N : Int) ∧ wc' = wc)
    case first =>
      go_wp2_with fail
      go_loopw [7, 9] (fun v i wr => ∃ k M : Nat, k ≤ len1 ∧ k ≤ 200 ∧ M ≤ 4000200 + 20001 * k ∧ v = .int .i64 (M : Int) ∧ i = .int .i64 (k : Int) ∧ wr = wc) (fun _ i _ => 200 - (intOf i).toNat)
      case atStart => exact ⟨0, N, by omega, by omega, by omega, rfl, rfl, rfl⟩
      case round =>
        obtain ⟨k, M, hk1, hk2, hM, rfl, rfl, rfl⟩ := hrel
        by_cases hkl : k < len1
        · have hkli : (k : Int) < len1 := by omega
          by_cases hk3 : k < 200
          · have hk3i : (k : Int) < 200 := by omega
            obtain ⟨x, ab, cb, rfl, hx, hv, e0, e1, e2, l1⟩ := H1.out.at k (by rw [← HL.out.2]; exact hkl)
            obtain ⟨L, hL⟩ : ∃ L, (U.getD k dR).zs.length = L := ⟨_, rfl⟩
            rw [hL] at e2
            obtain ⟨mL, hmL, bL⟩ : ∃ mL : Nat, (if (20001 : Int) < (L : Int) then (20001 : Int) else (L : Int)) = mL ∧ mL ≤ 20001 := by
              by_cases h : (20001 : Int) < L
              · exact ⟨20001, by rw [if_pos h]; rfl, by omega⟩
              · exact ⟨L, by rw [if_neg h], by omega⟩
            clear l1 hv hL e0 e1
            go_wp2
            go_roundw
            case rel => exact ⟨k + 1, M + mL, by omega, by omega, by omega, by go_num, by go_num, by first | rfl | trivial⟩
            case measure => simp [intOf]; omega
          · have hk3i : (200 : Int) ≤ k := by omega
            go_wp2
            go_meet
            case rel => exact ⟨M, by omega, rfl, rfl⟩
        · have hkli : (len1 : Int) ≤ k := by omega
          go_wp2
          go_meet
          case rel => exact ⟨M, by omega, rfl, rfl⟩
    case rest =>
      clear N hN
      obtain ⟨N, hN, rfl, rfl⟩ := hcut
      by_cases hg : len0 ≤ 200 ∧ len1 ≤ 200 ∧ N ≤ 20000 ∧ len2 ≤ 50
      · obtain ⟨g0, g1, g2, g3⟩ := hg
        have i0 : (len0 : Int) ≤ 200 := by omega
        have i1 : (len1 : Int) ≤ 200 := by omega
        have i2 : (N : Int) ≤ 20000 := by omega
        have i3 : (len2 : Int) ≤ 50 := by omega
        have b0 : len0 ≤ 1000000 := by omega
        have b1 : len1 ≤ 1000000 := by omega
        have b2 : len2 ≤ 1000000 := by omega
        clear g0 g1 g2 g3
        go_wp2_with fail
        refine (plain_tra H0.out b0).mono ?_
        rintro e w3 ⟨x3, c3, rfl, t3, k3⟩
        go_wp2_with fail
        refine (plain_tra (H1.out.same k3) b1).mono ?_
        rintro e w4 ⟨x4, c4, rfl, t4, k4⟩
        have k34 := k3.then k4
        have D0 : Hid (∀ w', Chg no w4 w' → Tra (Old w) w' (.slice a0 len0 cap0) T) := fun w' c => (H0.out.same k34).same c
        have D1 : Hid (∀ w', Chg no w4 w' → Tra (Old w) w' (.slice a1 len1 cap1) U) := fun w' c => (H1.out.same k34).same c
        have D3 : Hid (∀ w', Chg no w4 w' → Tra _ w' (.slice x3 len0 c3) T) := fun w' c => (t3.same k4).same c
        have D4 : Hid (∀ w', Chg no w4 w' → Tra _ w' (.slice x4 len1 c4) U) := fun w' c => t4.same c
        have DK : Hid (∀ w', Chg no w4 w' → Nums w' a2 len2 ks) := fun w' c => nums_of (HK.out.chg (k34.then c) (fun _ _ h => h))
        have K4 := k1.then k34
        clear t3 t4 H0 H1 HK k3 k4 k34 k1
        go_upto_region 15 with fail
        go_cut [98] from 74 to 98 (fun v wc' => v = .bool false ∧ Chg no w4 wc')
        case first =>
          by_cases p0 : 0 < len0
          · have p0i : (0 : Int) < len0 := by omega
            by_cases p1 : 0 < len1
            · have p1i : (0 : Int) < len1 := by omega
              have TU := two_of (D0.out _ (Chg.refl no w4)) (D1.out _ (Chg.refl no w4))
              have RU := two_of (D3.out _ (Chg.refl no w4)) (D4.out _ (Chg.refl no w4))
              obtain ⟨x, y, ab, cb, bb, db, rfl, rfl, e0, e1, e2, f0, f1, f2, S1, _⟩ := TU 0 w4 (Chg.refl no w4) (by rw [← HL.out.1]; exact p0) (by rw [← HL.out.2]; exact p1)
              obtain ⟨x', y', ab', cb', bb', db', rfl, rfl, e0', e1', e2', f0', f1', f2', _, S2⟩ := RU 0 w4 (Chg.refl no w4) (by rw [← HL.out.1]; exact p0) (by rw [← HL.out.2]; exact p1)
              obtain ⟨s, hs⟩ : ∃ s, sm (T.getD 0 dR) (U.getD 0 dR) = s := ⟨_, rfl⟩
              rw [hs] at S1 S2
              obtain ⟨⟨k1, a1, v1, z1⟩, hX⟩ : ∃ X, T.getD 0 dR = X := ⟨_, rfl⟩
              obtain ⟨⟨k2, a2', v2, z2⟩, hY⟩ : ∃ X, U.getD 0 dR = X := ⟨_, rfl⟩
              rw [hX] at e0 e1 e2 S1 e0' e1' e2' S2
              rw [hY] at f0 f1 f2 S1 f0' f1' f2' S2
              have HS1 : Hid (∀ w'', Chg no w4 w'' → Calls Try.prog 34 #[.agg #[.int .i64 k1, .int .i64 a1, .slice ab z1.length cb], .agg #[.int .i64 k2, .int .i64 a2', .slice bb z2.length db]] w'' fun e w3 => e = .returned (.bool s) ∧ Chg no w'' w3) := S1
              have HS2 : Hid (∀ w'', Chg no w4 w'' → Calls Try.prog 35 #[.agg #[.int .i64 k1, .int .i64 a1, .slice ab' z1.length cb'], .agg #[.int .i64 k2, .int .i64 a2', .slice bb' z2.length db']] w'' fun e w3 => e = .returned (.bool s) ∧ Chg no w'' w3) := S2
              have ad : ∀ q : Addr, q.add (0 * 3) = q := fun q => by simp [Addr.add]
              simp only [ad] at e0 e1 e2 f0 f1 f2 e0' e1' e2' f0' f1' f2'
              clear TU RU S1 S2 hs hX hY ad
              obtain ⟨pG, hpG⟩ : ∃ pG : World → Prop, ∀ w', pG w' ↔ Chg no w4 w' := ⟨_, fun _ => Iff.rfl⟩
              have hx0 : ∀ q : far.InC pG, q.w.cell? x = some (.int .i64 k1) := fun q => ((hpG _).1 q.h).cell e0 id
              have hx1 : ∀ q : far.InC pG, q.w.cell? ⟨x.block, x.off + 1, none⟩ = some (.int .i64 a1) := fun q => ((hpG _).1 q.h).cell e1 id
              have hx2 : ∀ q : far.InC pG, q.w.cell? ⟨x.block, x.off + 2, none⟩ = some (.slice ab z1.length cb) := fun q => ((hpG _).1 q.h).cell e2 id
              have hy0 : ∀ q : far.InC pG, q.w.cell? y = some (.int .i64 k2) := fun q => ((hpG _).1 q.h).cell f0 id
              have hy1 : ∀ q : far.InC pG, q.w.cell? ⟨y.block, y.off + 1, none⟩ = some (.int .i64 a2') := fun q => ((hpG _).1 q.h).cell f1 id
              have hy2 : ∀ q : far.InC pG, q.w.cell? ⟨y.block, y.off + 2, none⟩ = some (.slice bb z2.length db) := fun q => ((hpG _).1 q.h).cell f2 id
              have hu0 : ∀ q : far.InC pG, q.w.cell? x' = some (.int .i64 k1) := fun q => ((hpG _).1 q.h).cell e0' id
              have hu1 : ∀ q : far.InC pG, q.w.cell? ⟨x'.block, x'.off + 1, none⟩ = some (.int .i64 a1) := fun q => ((hpG _).1 q.h).cell e1' id
              have hu2 : ∀ q : far.InC pG, q.w.cell? ⟨x'.block, x'.off + 2, none⟩ = some (.slice ab' z1.length cb') := fun q => ((hpG _).1 q.h).cell e2' id
              have hv0 : ∀ q : far.InC pG, q.w.cell? y' = some (.int .i64 k2) := fun q => ((hpG _).1 q.h).cell f0' id
              have hv1 : ∀ q : far.InC pG, q.w.cell? ⟨y'.block, y'.off + 1, none⟩ = some (.int .i64 a2') := fun q => ((hpG _).1 q.h).cell f1' id
              have hv2 : ∀ q : far.InC pG, q.w.cell? ⟨y'.block, y'.off + 2, none⟩ = some (.slice bb' z2.length db') := fun q => ((hpG _).1 q.h).cell f2' id
              have iG : Nonempty (far.InC pG) := ⟨⟨w4, (hpG _).2 (Chg.refl no w4)⟩⟩
              have HP : Hid (∀ w', pG w' ↔ Chg no w4 w') := hpG
              clear hpG e0 e1 e2 f0 f1 f2 e0' e1' e2' f0' f1' f2' D0 D1 D3 D4 DK
              refine far.region_farM (fun κ w' => pG w') [15, 22] (by kernel_rfl) (by kernel_rfl) ((HP.out _).2 (Chg.refl no w4).drew) ?_
              intro L e1' e2' e3'
              refine far.farO_stretch pG 15 0 0 e1' e2' e3' (by kernel_rfl) (by kernel_rfl) (fun κ w' hk1 hk2 hC => hC) ?_
              simp only [List.take_succ_cons, List.take_zero, List.drop_succ_cons, List.drop_zero, Nat.reduceAdd]
              repeat (go_big_quiet_step (fail))
              refine wpQuiet_nil ?_
              refine far.farO_enter e1' e2' 0 rfl rfl 34 #[.agg #[.int .i64 k1, .int .i64 a1, .slice ab z1.length cb], .agg #[.int .i64 k2, .int .i64 a2', .slice bb z2.length db]] (by kernel_rfl) (by kernel_rfl) ?_
              refine (HS1.out _ (Chg.refl no w4).drew).mono ?_
              rintro e w5 ⟨rfl, k5⟩
              have C5 := (Chg.refl no w4).drew.then k5
              refine ⟨_, rfl, (HP.out _).2 C5, ?_⟩
              simp only [Act.put, List.setIfInBounds_toArray, List.set_cons_succ, List.set_cons_zero, Nat.reduceAdd]
              refine far.farO_stretch pG 6 0 1 e1' e2' e3' (by kernel_rfl) (by kernel_rfl) (fun κ w' hk1 hk2 hC => hC) ?_
              simp only [List.take_succ_cons, List.take_zero, List.drop_succ_cons, List.drop_zero, Nat.reduceAdd]
              repeat (go_big_quiet_step (fail))
              refine wpQuiet_nil ?_
              refine far.farO_enter e1' e2' 1 rfl rfl 35 #[.agg #[.int .i64 k1, .int .i64 a1, .slice ab' z1.length cb'], .agg #[.int .i64 k2, .int .i64 a2', .slice bb' z2.length db']] (by kernel_rfl) (by kernel_rfl) ?_
              refine (HS2.out _ C5).mono ?_
              rintro e w6 ⟨rfl, k6⟩
              have C6 := C5.then k6
              refine ⟨_, rfl, (HP.out _).2 C6, ?_⟩
              simp only [Act.put, List.setIfInBounds_toArray, List.set_cons_succ, List.set_cons_zero, Nat.reduceAdd]
              refine far.farO_stretch pG 2 2 2 e1' e2' e3' (by kernel_rfl) (by kernel_rfl) (fun κ w' hk1 hk2 hC => hC) ?_
              simp only [List.take_succ_cons, List.take_zero, List.drop_succ_cons, List.drop_zero, Nat.reduceAdd]
              repeat (go_big_quiet_step (fail))
              refine wpQuiet_nil ?_
              refine far.farO_nil ?_
              go_wp2
              go_meet
              case rel => exact ⟨by simp, C6⟩
            · obtain rfl : len1 = 0 := by omega
              clear D0 D1 D3 D4 DK
              go_quiet (fail)
              go_wp2
              go_meet
              case rel => exact ⟨rfl, (Chg.refl no w4).drewN _⟩
          · obtain rfl : len0 = 0 := by omega
            clear D0 D1 D3 D4 DK
            go_quiet (fail)
            go_wp2
            go_meet
            case rel => exact ⟨rfl, (Chg.refl no w4).drewN _⟩
        case rest =>
          obtain ⟨rfl, C⟩ := hcut
          go_wp2_with fail
          refine (first_any _).mono ?_
          rintro e w5 ⟨rfl, k5⟩
          have C5 := C.then k5
          go_wp2_with fail
          refine (equal_ops (D0.out _ C5) (D1.out _ C5) b0).mono ?_
          rintro e w6 ⟨rfl, k6⟩
          have C6 := C5.then k6
          go_wp2_with fail
          refine (sameOps_any (D3.out _ C6) (D4.out _ C6) b0 b1).mono ?_
          rintro e w7 ⟨rfl, k7⟩
          have C7 := C6.then k7
          generalize decide (keys T = keys U) = q1
          go_wp2_with fail
          refine (common_ops (D0.out _ C7) (D1.out _ C7) b0 b1).mono ?_
          rintro e w8 ⟨rfl, k8⟩
          have C8 := C7.then k8
          go_wp2_with fail
          refine (rcommon_ops (D3.out _ C8) (D4.out _ C8) b0 b1).mono ?_
          rintro e w9 ⟨rfl, k9⟩
          have C9 := C8.then k9
          go_wp2_with fail
          refine (count_ops (D0.out _ C9) (DK.out _ C9) b0 b2).mono ?_
          rintro e wa ⟨rfl, ka⟩
          have Ca := C9.then ka
          go_wp2_with fail
          refine (rcount_ops (D3.out _ Ca) (DK.out _ Ca) b0 b2).mono ?_
          rintro e wb ⟨rfl, kb⟩
          have Cb := Ca.then kb
          go_wp2_with fail
          refine (equal_ops (D0.out _ Cb) (D0.out _ Cb) b0).mono ?_
          rintro e wd ⟨rfl, kd⟩
          have Cd := Cb.then kd
          go_wp2
          go_ret
          exact ⟨ret_bool (by simp), (K4.then Cd).below⟩
      · have hc : (200 : Int) < len0 ∨ ((len0 : Int) ≤ 200 ∧ (200 : Int) < len1) ∨ ((len0 : Int) ≤ 200 ∧ (len1 : Int) ≤ 200 ∧ (20000 : Int) < N) ∨ ((len0 : Int) ≤ 200 ∧ (len1 : Int) ≤ 200 ∧ (N : Int) ≤ 20000 ∧ (50 : Int) < len2) := by omega
        clear hg H0 H1 HK HL
        rcases hc with h1 | ⟨h1, h2⟩ | ⟨h1, h2, h3⟩ | ⟨h1, h2, h3, h4⟩
        all_goals
          go_wp2_with fail
          refine (first_any _).mono ?_
          rintro e w2 ⟨rfl, k2⟩
          go_wp2
          go_ret
          exact ⟨rfl, (k1.then k2).below⟩

theorem own : ownKnob Try.prog.godebug = none := by kernel_rfl
theorem laidOut : laidOutB Try.prog = true := by kernel_rfl

set_option maxRecDepth 100000 in
theorem lifted (os : Os) (started : os.Started) (H : Type) (enc : TypeId × Value → H) :
    ReturnsInHanded {} Try.checked os 4 .any (Rows.traceComparesSpec.pre6 enc Try.prog Try.f4 Rows.traceComparesRow.domain false) (Rows.traceComparesSpec.post enc Try.prog Try.f4 false true false false) := by
  refine returnsInHanded_of_change (C := Try.checked) own started (by kernel_rfl) Try.func4
    (ChangeSpec.witness6 (enc := enc) (C := Try.checked) false ⟨#[], #[.slice none 0 0, .slice none 0 0, .slice none 0 0], []⟩ 8 (by kernel_rfl) (by kernel_rfl) (by kernel_rfl) (by kernel_rfl)) ?_
  intro W base args ds gs before hval0 hW hcnd _
  have hval : ∀ (j : Nat) t v, Try.f4.params[j]? = some t → args[j]? = some v → Value.okWide Try.prog W .any base t v := hval0
  have hW' := hW
  obtain ⟨p, q, hA0, hV, rfl, hfz, hnd⟩ := hW
  have hA : DataW.TrodAll enc Try.prog W 0 (fun _ => true) true Try.f4.params.toList args.toList ds p := hA0
  rw [Try.params4] at hA hval
  obtain ⟨v0, vs0, d0, ds0, p0, q0, hargs, rfl, rfl, h0, r0⟩ := trodAll_cons hA
  obtain ⟨v1, vs1, d1, ds1, p1, q1, rfl, rfl, rfl, h1, r1⟩ := trodAll_cons r0
  obtain ⟨v2, vs2, d2, ds2, p2, q2, rfl, rfl, rfl, h2, r2⟩ := trodAll_cons r1
  obtain ⟨rfl, rfl, rfl⟩ := trodAll_nil r2
  obtain rfl : args = #[v0, v1, v2] := by cases args; simp_all
  obtain ⟨rfl, rfl⟩ := trodVars_none hV
  obtain ⟨a0, len0, cap0, rfl⟩ := okWide_slice Try.underlying42 (hval 0 42 v0 rfl rfl)
  have k0 := h0
  have lt0 : ∀ x ∈ p0, x.block < W.heap.size := by obtain ⟨m, hm⟩ := k0; exact DataW.trod_lt m _ _ _ hm
  have c0 : len0 ≤ cap0 := by obtain ⟨m, hm⟩ := k0; exact (open_cap Try.underlying42 hm).1
  obtain ⟨T0, w0⟩ := (by obtain ⟨fuel, hf⟩ := h0; exact open_recs hf : ∃ z : List Rec, Tra (Old W) W (.slice a0 len0 cap0) z)
  obtain ⟨a1, len1, cap1, rfl⟩ := okWide_slice Try.underlying42 (hval 1 42 v1 rfl rfl)
  have k1 := h1
  have lt1 : ∀ x ∈ p1, x.block < W.heap.size := by obtain ⟨m, hm⟩ := k1; exact DataW.trod_lt m _ _ _ hm
  have c1 : len1 ≤ cap1 := by obtain ⟨m, hm⟩ := k1; exact (open_cap Try.underlying42 hm).1
  obtain ⟨T1, w1⟩ := (by obtain ⟨fuel, hf⟩ := h1; exact open_recs hf : ∃ z : List Rec, Tra (Old W) W (.slice a1 len1 cap1) z)
  obtain ⟨a2, len2, cap2, rfl⟩ := okWide_slice Try.underlying59 (hval 2 59 v2 rfl rfl)
  have k2 := h2
  have lt2 : ∀ x ∈ p2, x.block < W.heap.size := by obtain ⟨m, hm⟩ := k2; exact DataW.trod_lt m _ _ _ hm
  have c2 : len2 ≤ cap2 := by obtain ⟨m, hm⟩ := k2; exact (open_cap Try.underlying59 hm).1
  obtain ⟨z2, w2⟩ := (by obtain ⟨fuel, hf⟩ := h2; exact open_nums hf : ∃ z : List Int, Lies (Old W) W (.slice a2 len2 cap2) (z.map (Value.int .i64)))
  clear hA0 hval0
  refine (walk W a0 len0 cap0 T0 a1 len1 cap1 T1 a2 len2 cap2 z2 w0 c0 w1 c1 w2 c2).mono fun e W' ⟨he, bel⟩ => ?_
  subst he
  exact ⟨_, rfl, _, _, _, [], _, [], hW', trodAll_mk1 (shut_bool Try.underlying4 _), (trodAll_cons_mk (Below.trod laidOut (by kernel_rfl) (of_decide_eq_true (by kernel_rfl)) k0 bel lt0) (trodAll_cons_mk (Below.trod laidOut (by kernel_rfl) (of_decide_eq_true (by kernel_rfl)) k1 bel lt1) (trodAll_cons_mk (Below.trod laidOut (by kernel_rfl) (of_decide_eq_true (by kernel_rfl)) k2 bel lt2) trodAll_mk0))), rfl, bel.frame _, fun h => by cases h⟩

theorem over : Rows.traceComparesRow.holds Try.pinned (OpenSpec.ofChange Rows.traceComparesSpec) :=
  OpenClaim.holds_of_wide 4 Try.f4 rfl rfl rfl rfl rfl rfl rfl ⟨rfl, rfl, rfl, rfl, rfl⟩ rfl rfl rfl rfl rfl (by kernel_rfl) Try.func4 (by kernel_rfl)
    (of_decide_eq_true (by kernel_rfl)) (by unfold Func.isWrapper; first | (rw [if_pos (by decide +kernel)]; kernel_rfl) | (rw [if_neg (by decide +kernel)]; exact ⟨rfl, rfl⟩))
    (fun os started H enc _ => lifted os started H enc)

theorem proved : Rows.TraceComparesSaid := over
end Go.Proofs.Yteehphmedmplkaa.traceCompares
namespace Go.Proofs.Yteehphmedmplkaa
theorem traceCompares_holds : Rows.TraceComparesSaid := traceCompares.proved
#print axioms traceCompares_holds
end Go.Proofs.Yteehphmedmplkaa
