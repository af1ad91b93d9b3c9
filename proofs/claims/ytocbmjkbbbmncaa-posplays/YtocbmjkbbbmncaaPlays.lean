/-
  Proved: for all places and all operations the law PosPlays returns true; no condition.
-/
import Derived.Test.YtocbmjkbbbmncaaPly
import Derived.Deep.CutBlock
namespace Go.Proofs.Ytocbmjkbbbmncaa.posPlays
open Go.ChangeShapes Go.WideShapes Go.ChangeAt Go.RowKit Go.Proofs.Ytocbmjkbbbmncaa.hp Go.Proofs.Ytocbmjkbbbmncaa.st
set_option linter.unusedVariables false

set_option maxHeartbeats 2000000 in
theorem early (w : World) (a0 : Option Addr) (l0 c0 : Nat) (v1 : Value) (hh : 100 < l0) :
    Calls Try.prog 3 #[.slice a0 l0 c0, v1] w fun e w' => e = .returned (.bool true) ∧ Below w.heap.size w w' := by
  have h1 : (100 : Int) < l0 := by omega
  clear hh
  go_enter Try.func3, Try.ntmps3
  go_wp2_with fail
  refine (first_any _).mono ?_
  rintro e w1 ⟨rfl, k1⟩
  go_wp2_with fail
  refine (first_any _).mono ?_
  rintro e w3 ⟨rfl, k3⟩
  go_wp2
  go_ret
  exact ⟨rfl, (k1.then k3).below⟩

set_option maxRecDepth 100000 in
set_option maxHeartbeats 32000000 in
theorem late (w : World) (a0 : Option Addr) (c0 : Nat) (ps : List (Int × Int)) (a1 : Option Addr) (m c1 : Nat) (O : Nat → OpA) (h0 : Lie (Old w) w (.slice a0 ps.length c0) ps.length (ps.flatMap f2)) (hp : ps.length ≤ 100) (hO : OpsAt w a1 m O) (k1 : m ≤ c1) (k2 : c1 ≤ maxLen) :
    Calls Try.prog 3 #[.slice a0 ps.length c0, .slice a1 m c1] w fun e w' => e = .returned (.bool true) ∧ Below w.heap.size w w' := by
  have HNew : Hid (∀ W, Chg no w W → Calls Try.prog 9 #[.slice a0 ps.length c0] W fun e w' => ∃ r, e = .returned r ∧ Made 63 33 W ps r w') := fun W k => new_any W _ ps (h0.same k) (by omega)
  have HPl : Hid (∀ W, Chg no w W → Calls Try.prog 11 #[.slice a0 ps.length c0] W fun e w' => ∃ v, e = .returned v ∧ NewR 39 2 f2 W ps v w') := fun W k => lplaces_any W _ ps (h0.same k) (by omega)
  have HO : Hid (OpsAt w a1 m O) := hO
  obtain ⟨n, hn⟩ : ∃ n, ps.length = n := ⟨_, rfl⟩
  have HN : Hid (ps.length = n) := hn
  rw [hn] at hp HNew HPl ⊢
  have i1 : (n : Int) ≤ 100 := by omega
  clear h0 hn hO
  go_enter Try.func3, Try.ntmps3
  go_wp2_with fail
  refine (first_any _).mono ?_
  rintro e w1 ⟨rfl, k1'⟩
  have HF := few_any w1 a1 m c1 O (OpsAt.same HO.out k1') k1 k2
  go_wp2_with fail
  refine HF.mono ?_
  rintro e w1' ⟨b, rfl, hfew, rfl⟩
  cases b
  case false =>
    clear HF hfew
    go_wp2_with fail
    refine (first_any _).mono ?_
    rintro e wz ⟨rfl, kz⟩
    go_wp2
    go_ret
    exact ⟨rfl, (k1'.then kz).below⟩
  obtain ⟨hf1, hfe⟩ := hfew rfl
  have i3 : (m : Int) ≤ 200 := by omega
  have HFE : Hid (∀ i, i < m → (O i).cs.length ≤ 2000) := hfe
  clear hfew HF hfe
  go_wp2_with fail
  refine (HNew.out w1' k1').mono ?_
  rintro e w2 ⟨r2, rfl, p, pv, cv, rfl, M2, k2', n2⟩
  have K2 := k1'.then k2'
  go_wp2_with fail
  refine (HPl.out w2 K2).mono ?_
  rintro e w3 ⟨v3, rfl, N3⟩
  have HR := rnew_any w3 v3 ps N3.lie (by rw [HN.out]; omega)
  obtain ⟨x3, c3, rfl⟩ := N3.shape
  have k3' := N3.2
  rw [HN.out] at HR ⊢
  clear N3 HPl HNew
  go_wp2_with fail
  refine HR.mono ?_
  rintro e w4 ⟨r4, rfl, p', pv', cv', rfl, M4, k4, n4⟩
  have HA : Hid (Alk w p pv cv p' pv' n w4) := ⟨ps, _, cv', HN.out, Duo.made k1' M2 k2' n2 k3' M4 k4 n4⟩
  clear HR M2 M4 k1' k2' k3' k4 n2 n4 K2
  go_wp2_with fail
  go_loopw [7] (fun i wr => ∃ j : Nat, j ≤ m ∧ i = .int .i64 (j : Int) ∧ Alk w p pv cv p' pv' n wr) (fun i _ => m - (intOf i).toNat)
  case atStart => exact ⟨0, by omega, rfl, HA.out⟩
  case round =>
    clear HA
    obtain ⟨j, hj, rfl, hA⟩ := hrel
    by_cases hjl : j < m
    · have hji : (j : Int) < m := by omega
      obtain ⟨x, rfl, e0, e1, e2, e3, e4, _⟩ := OpsAt.at HO.out hA.chg j hjl
      have hzl := HFE.out j hjl
      have el0 : Lie (Old w) w (.slice (O j).a (O j).cs.length (O j).c) (O j).cs.length ((O j).cs.flatMap f3) := by
        obtain ⟨_, _, _, _, _, _, _, e⟩ := HO.out j hjl
        exact e
      obtain ⟨op, hop⟩ : ∃ op, O j = op := ⟨_, rfl⟩
      rw [hop] at e0 e1 e2 e3 e4 hzl el0
      obtain ⟨kind, d, l, t, ab, cb, cs⟩ := op
      simp only at e0 e1 e2 e3 e4 hzl el0
      have HEL : Hid _ := el0
      have HZL : Hid (cs.length ≤ 2000) := hzl
      obtain ⟨q, hq⟩ : ∃ q, cs.length = q := ⟨_, rfl⟩
      have HQ : Hid (cs.length = q) := hq
      rw [hq] at e4
      clear hop hzl el0 hq
      have hx2 := hA.box #[.int .i64 kind, .int .i64 d, .int .i64 l, .int .i64 t, .slice ab q cb] 36
      clear hA
      go_upto_block 2 with fail
      obtain ⟨wX, hwX⟩ : ∃ wX, wr.alloc (.cells #[.int .i64 kind, .int .i64 d, .int .i64 l, .int .i64 t, .slice ab q cb] 36) = wX := ⟨_, rfl⟩
      obtain ⟨PB, hPB⟩ : ∃ PB, wr.heap.size = PB := ⟨_, rfl⟩
      rw [hwX, hPB] at hx2
      simp only [hwX, hPB]
      clear hwX hPB e0 e1 e2 e3 e4
      have HB : Hid (AlkB w p pv cv p' pv' n PB (opBox kind d l t ab q cb) wX) := hx2
      obtain ⟨z0', z1', z2', z3', z4', zl'⟩ := opBox_cells hx2.blk
      clear hx2
      go_cut [9] from 43 to 76 (fun ok wc => ok = .bool true ∧ AlkB w p pv cv p' pv' n PB (opBox kind d l t ab q cb) wc)
      case first =>
        by_cases hk0 : kind = 0
        · subst hk0
          obtain ⟨W, R, C1, R1, R2, C2⟩ := play_set (AlkB.same HB.out ((Chg.refl no wX).drew)) d l t
          have HC1 : Hid (Calls Try.prog 12 #[pt p, .int .i64 d, nv l t] wX.drew fun e w1 => e = .returned (.bool W) ∧ R w1) := C1
          have HR1 : Hid _ := R1
          have HR2 : Hid _ := R2
          have HC2 : Hid _ := C2
          have gX : wX.heap[PB]? = some (opBox 0 d l t ab q cb) := AlkB.blk HB.out
          clear C1 C2 R1 R2
          go_wp2_with fail
          obtain ⟨pG, hpG⟩ : ∃ pG : World → Prop, ∀ w', pG w' ↔ w'.heap[PB]? = some (opBox 0 d l t ab q cb) := ⟨_, fun _ => Iff.rfl⟩
          have xN1 : ∀ x' : far.InC pG, x'.w.cell? ⟨PB, 1, none⟩ = some (.int .i64 d) := fun x => (opBox_cells ((hpG _).1 x.h)).2.1
          have xN2 : ∀ x' : far.InC pG, x'.w.cell? ⟨PB, 2, none⟩ = some (.int .i64 l) := fun x => (opBox_cells ((hpG _).1 x.h)).2.2.1
          have xN3 : ∀ x' : far.InC pG, x'.w.cell? ⟨PB, 3, none⟩ = some (.int .i64 t) := fun x => (opBox_cells ((hpG _).1 x.h)).2.2.2.1
          have iG : Nonempty (far.InC pG) := ⟨⟨wX, (hpG _).2 gX⟩⟩
          have HpG : Hid (∀ w', pG w' ↔ w'.heap[PB]? = some (opBox 0 d l t ab q cb)) := hpG
          have HGB : Hid (wX.heap[PB]? = some (opBox 0 d l t ab q cb)) := gX
          have Y0 : Chg no wX wX.drew := (Chg.refl no wX).drew
          clear hpG gX z0' z1' z2' z3' z4' zl'
          refine far.region_farM (fun κ w' => pG w') [5, 11, 12] (by kernel_rfl) (by kernel_rfl) ((HpG.out _).2 (Y0.heap HGB.out id)) ?_
          intro LL e1' e2' e3'
          refine far.farO_stretch pG 5 0 3 e1' e2' e3' (by kernel_rfl) (by kernel_rfl) (fun κ w' hk1 hk2 hC => hC) ?_
          simp only [List.take_succ_cons, List.take_zero, List.drop_succ_cons, List.drop_zero, Nat.reduceAdd]
          repeat (go_big_quiet_step (fail))
          refine wpQuiet_nil ?_
          refine far.farO_enter e1' e2' 0 rfl rfl 12 #[pt p, .int .i64 d, nv l t] (by kernel_rfl) (by kernel_rfl) ?_
          refine (HC1.out).mono ?_
          rintro e wa ⟨rfl, Ra⟩
          refine ⟨_, rfl, (HpG.out _).2 (HR2.out _ Ra), ?_⟩
          simp only [Act.put, List.setIfInBounds_toArray, List.set_cons_succ, List.set_cons_zero, Nat.reduceAdd]
          refine far.farO_stretch pG 5 0 3 e1' e2' e3' (by kernel_rfl) (by kernel_rfl) (fun κ w' hk1 hk2 hC => hC) ?_
          simp only [List.take_succ_cons, List.take_zero, List.drop_succ_cons, List.drop_zero, Nat.reduceAdd]
          repeat (go_big_quiet_step (fail))
          refine wpQuiet_nil ?_
          refine far.farO_enter e1' e2' 1 rfl rfl 14 #[nv l t] (by kernel_rfl) (by kernel_rfl) ?_
          refine (place_any _ l t).mono ?_
          rintro e wb ⟨rfl, kb⟩
          have Rb := HR1.out _ _ Ra kb
          refine ⟨_, rfl, (HpG.out _).2 (HR2.out _ Rb), ?_⟩
          simp only [Act.put, List.setIfInBounds_toArray, List.set_cons_succ, List.set_cons_zero, Nat.reduceAdd]
          refine far.farO_enter e1' e2' 2 rfl rfl 13 #[pt p', .int .i64 d, nv l t] (by kernel_rfl) (by kernel_rfl) ?_
          refine (HC2.out _ Rb).mono ?_
          rintro e wd ⟨rfl, A6⟩
          have HA6 : Hid _ := A6
          refine ⟨_, rfl, (HpG.out _).2 (AlkB.blk HA6.out), ?_⟩
          simp only [Act.put, List.setIfInBounds_toArray, List.set_cons_succ, List.set_cons_zero, Nat.reduceAdd]
          clear HC1 HC2 HR1 HR2 A6
          refine far.farO_stretch pG 2 0 3 e1' e2' e3' (by kernel_rfl) (by kernel_rfl) (fun κ w' hk1 hk2 hC => hC) ?_
          simp only [List.take_succ_cons, List.take_zero, List.drop_succ_cons, List.drop_zero, Nat.reduceAdd]
          repeat (go_big_quiet_step (fail))
          refine wpQuiet_nil ?_
          refine far.farO_nil ?_
          clear xN1 xN2 xN3 iG HpG
          go_wp2
          go_meet
          case rel => exact ⟨by first | rfl | simp, HA6.out⟩
        by_cases hk1 : kind = 1
        · subst hk1
          obtain ⟨R, C1, C2⟩ := play_settle HB.out (by omega)
          have HC2 : Hid _ := C2
          clear C2
          go_wp2_with fail
          refine C1.mono ?_
          rintro e w5 ⟨rfl, R5⟩
          have C3 := HC2.out _ R5
          clear C1 HC2 R5 z0' z1' z2' z3' z4' zl'
          go_wp2_with fail
          refine C3.mono ?_
          rintro e w6 ⟨rfl, A6⟩
          have HA6 : Hid _ := A6
          clear C3 A6
          go_wp2
          go_meet
          case rel => exact ⟨rfl, HA6.out⟩
        by_cases hk2 : kind = 2
        · subst hk2
          obtain ⟨W, R, C1, R2, C2⟩ := play_apply (AlkB.same HB.out ((Chg.refl no wX).drew)) (.slice ab cs.length cb) cs HEL.out HZL.out
          rw [HQ.out] at C1 C2
          have HC1 : Hid (Calls Try.prog 17 #[pt p, .slice ab q cb] wX.drew fun e w1 => e = .returned (.bool W) ∧ R w1) := C1
          have HR2 : Hid _ := R2
          have HC2 : Hid _ := C2
          have gX : wX.heap[PB]? = some (opBox 2 d l t ab q cb) := AlkB.blk HB.out
          clear C1 C2 R2
          go_wp2_with fail
          obtain ⟨pG, hpG⟩ : ∃ pG : World → Prop, ∀ w', pG w' ↔ w'.heap[PB]? = some (opBox 2 d l t ab q cb) := ⟨_, fun _ => Iff.rfl⟩
          have xN4 : ∀ x' : far.InC pG, x'.w.cell? ⟨PB, 4, none⟩ = some (.slice ab q cb) := fun x => (opBox_cells ((hpG _).1 x.h)).2.2.2.2.1
          have iG : Nonempty (far.InC pG) := ⟨⟨wX, (hpG _).2 gX⟩⟩
          have HpG : Hid (∀ w', pG w' ↔ w'.heap[PB]? = some (opBox 2 d l t ab q cb)) := hpG
          have HGB : Hid (wX.heap[PB]? = some (opBox 2 d l t ab q cb)) := gX
          have Y0 : Chg no wX wX.drew := (Chg.refl no wX).drew
          clear hpG gX z0' z1' z2' z3' z4' zl'
          refine far.region_farM (fun κ w' => pG w') [3, 7, 8] (by kernel_rfl) (by kernel_rfl) ((HpG.out _).2 (Y0.heap HGB.out id)) ?_
          intro LL e1' e2' e3'
          refine far.farO_stretch pG 3 0 3 e1' e2' e3' (by kernel_rfl) (by kernel_rfl) (fun κ w' hk1 hk2 hC => hC) ?_
          simp only [List.take_succ_cons, List.take_zero, List.drop_succ_cons, List.drop_zero, Nat.reduceAdd]
          repeat (go_big_quiet_step (fail))
          refine wpQuiet_nil ?_
          refine far.farO_enter e1' e2' 0 rfl rfl 17 #[pt p, .slice ab q cb] (by kernel_rfl) (by kernel_rfl) ?_
          refine (HC1.out).mono ?_
          rintro e wa ⟨rfl, Ra⟩
          refine ⟨_, rfl, (HpG.out _).2 (HR2.out _ Ra), ?_⟩
          simp only [Act.put, List.setIfInBounds_toArray, List.set_cons_succ, List.set_cons_zero, Nat.reduceAdd]
          refine far.farO_stretch pG 3 0 3 e1' e2' e3' (by kernel_rfl) (by kernel_rfl) (fun κ w' hk1 hk2 hC => hC) ?_
          simp only [List.take_succ_cons, List.take_zero, List.drop_succ_cons, List.drop_zero, Nat.reduceAdd]
          repeat (go_big_quiet_step (fail))
          refine wpQuiet_nil ?_
          refine far.farO_enter e1' e2' 1 rfl rfl 19 #[.slice ab q cb] (by kernel_rfl) (by kernel_rfl) ?_
          refine (HC2.out _ Ra).mono ?_
          rintro e wb ⟨a2, c2', rfl, gb, C3⟩
          refine ⟨_, rfl, (HpG.out _).2 gb, ?_⟩
          simp only [Act.put, List.setIfInBounds_toArray, List.set_cons_succ, List.set_cons_zero, Nat.reduceAdd]
          refine far.farO_enter e1' e2' 2 rfl rfl 18 #[pt p', .slice a2 q c2'] (by kernel_rfl) (by kernel_rfl) ?_
          refine (C3).mono ?_
          rintro e wd ⟨rfl, A6⟩
          have HA6 : Hid _ := A6
          refine ⟨_, rfl, (HpG.out _).2 (AlkB.blk HA6.out), ?_⟩
          simp only [Act.put, List.setIfInBounds_toArray, List.set_cons_succ, List.set_cons_zero, Nat.reduceAdd]
          clear HC1 HC2 HR2 A6 C3 gb
          refine far.farO_stretch pG 2 0 3 e1' e2' e3' (by kernel_rfl) (by kernel_rfl) (fun κ w' hk1 hk2 hC => hC) ?_
          simp only [List.take_succ_cons, List.take_zero, List.drop_succ_cons, List.drop_zero, Nat.reduceAdd]
          repeat (go_big_quiet_step (fail))
          refine wpQuiet_nil ?_
          refine far.farO_nil ?_
          clear xN4 iG HpG
          go_wp2
          go_meet
          case rel => exact ⟨by first | rfl | simp, HA6.out⟩
        have hb0 : (kind == 0) = false := by simpa using hk0
        have hb1 : (kind == 1) = false := by simpa using hk1
        have hb2 : (kind == 2) = false := by simpa using hk2
        go_wp2
        go_meet
        case rel => exact ⟨rfl, HB.out⟩
      case rest =>
        obtain ⟨rfl, hAB⟩ := hcut
        obtain ⟨ap, cp, gl, gt, f1, f2', fz, fk, HT⟩ := hAB.tells (by omega) d
        obtain ⟨y0, y1, y2, y3, y4, yl⟩ := opBox_cells hAB.blk
        have HTT : Hid _ := HT
        have HFK : Hid _ := fk
        have HFZ : Hid _ := fz
        have HABH : Hid _ := hAB
        have HG := (HT wc (Chg.refl no wc)).1
        clear HB hAB HT z0' z1' z2' z3' z4' zl' y0 y2 y3 y4 fk fz
        obtain ⟨I, hI⟩ : ∃ I, isId n d = I := ⟨_, rfl⟩
        have HI : Hid (isId n d = I) := hI
        rw [hI] at HG HFZ
        clear hI
        go_wp2_with fail
        refine HG.mono ?_
        rintro e w5 ⟨rfl, k5⟩
        have Kx : Chg no wc (w5.alloc (.cells #[.int .i64 gl, .int .i64 gt] 33)) := k5.alloc _
        have hbx : (w5.alloc (.cells #[.int .i64 gl, .int .i64 gt] 33)).heap[w5.heap.size]? = some (.cells #[.int .i64 gl, .int .i64 gt] 33 (0, 0)) := heap_alloc_new _ _
        go_upto_region 23 with fail
        obtain ⟨Y, hY⟩ : ∃ Y, w5.heap.size = Y := ⟨_, rfl⟩
        obtain ⟨w6, hw6⟩ : ∃ w6, w5.alloc (.cells #[.int .i64 gl, .int .i64 gt] 33) = w6 := ⟨_, rfl⟩
        rw [hY, hw6] at hbx
        rw [hw6] at Kx
        simp only [hY, hw6]
        clear hY hw6 HG k5
        obtain ⟨b0, b1, bl⟩ := box_cells hbx
        have t1 := Kx.cell y1 id
        have t5 := Kx.cell f1 id
        have tl : p' < w6.heap.size := Nat.lt_of_lt_of_le f2' Kx.size
        have tb : PB < w6.heap.size := Nat.lt_of_lt_of_le yl Kx.size
        have HKx : Hid (Chg no wc w6) := Kx
        clear hbx y1 f1 f2' yl Kx
        have hcs : (d < 0 ∧ I = false) ∨ (0 ≤ d ∧ (n : Int) ≤ d ∧ I = false) ∨ (0 ≤ d ∧ d < n ∧ I = true) := by
          rw [← HI.out]
          unfold isId
          simp
          omega
        have hq39 : ∀ w, (binOp .neq 39 (.agg #[.int .i64 gl, .int .i64 gt]) (.agg #[.int .i64 gl, .int .i64 gt])).run Try.prog w = .ok (.bool false) w := fun w => by
          rw [neq39]
          simp
        have hg39 := fun w op x y xs ys => eqg39 op x y xs ys w
        have hq33 : ∀ w, (binOp .neq 33 (.agg #[.int .i64 0, .int .i64 0]) (.agg #[.int .i64 0, .int .i64 0])).run Try.prog w = .ok (.bool false) w := fun w => by
          rw [neq33]
          simp
        have hg33 := fun w op x y xs ys => eqg33 op x y xs ys w
        rcases hcs with ⟨d1, rfl⟩ | ⟨d1, d2, rfl⟩ | ⟨d1, d2, rfl⟩
        · obtain ⟨rfl, rfl⟩ := HFZ.out rfl
          clear HFK
          have g1 : decide ((0 : Int) ≤ d) = false := by simp; omega
          clear HI HFZ
          go_quiet (fail)
          go_upto_region 24 with fail
          obtain ⟨w7, hw7⟩ : ∃ w7, w6.drewN nq = w7 := ⟨_, rfl⟩
          simp only [hw7]
          have K7 : Chg no w6 w7 := by rw [← hw7]; exact (Chg.refl no w6).drewN nq
          clear hw7
          obtain ⟨pG, hpG⟩ : ∃ pG : World → Prop, ∀ w', pG w' ↔ Chg no w6 w' := ⟨_, fun _ => Iff.rfl⟩
          have x1 : ∀ x' : far.InC pG, x'.w.cell? ⟨PB, 1, none⟩ = some (.int .i64 d) := fun x => ((hpG _).1 x.h).cell t1 id
          have x2 : ∀ x' : far.InC pG, x'.w.cell? ⟨Y, 0, none⟩ = some (.int .i64 0) := fun x => ((hpG _).1 x.h).cell b0 id
          have x3 : ∀ x' : far.InC pG, x'.w.cell? ⟨Y, 1, none⟩ = some (.int .i64 0) := fun x => ((hpG _).1 x.h).cell b1 id
          have x4 : ∀ x' : far.InC pG, x'.w.cell? ⟨p', 0, none⟩ = some (.slice ap n cp) := fun x => ((hpG _).1 x.h).cell t5 id
          have x5 : ∀ x' : far.InC pG, p' < x'.w.heap.size := fun x => Nat.lt_of_lt_of_le tl ((hpG _).1 x.h).size
          have x6 : ∀ x' : far.InC pG, PB < x'.w.heap.size := fun x => Nat.lt_of_lt_of_le tb ((hpG _).1 x.h).size
          have x7 : ∀ x' : far.InC pG, Y < x'.w.heap.size := fun x => Nat.lt_of_lt_of_le bl ((hpG _).1 x.h).size
          have iG : Nonempty (far.InC pG) := ⟨⟨w6, (hpG _).2 (Chg.refl no w6)⟩⟩
          have HpG : Hid (∀ w', pG w' ↔ Chg no w6 w') := hpG
          have Y0 : Chg no w6 w7.drew := K7.drew
          clear hpG K7 b0 b1 bl t1 t5 tl tb
          refine far.region_farM (fun κ w' => pG w') [11, 34, 44, 45, 50, 55, 56, 58, 59] (by kernel_rfl) (by kernel_rfl) ((HpG.out _).2 Y0) ?_
          intro LL e1' e2' e3'
          refine far.farO_stretch pG 11 0 9 e1' e2' e3' (by kernel_rfl) (by kernel_rfl) (fun κ w' hk1 hk2 hC => hC) ?_
          simp only [List.take_succ_cons, List.take_zero, List.drop_succ_cons, List.drop_zero, Nat.reduceAdd]
          repeat (go_big_quiet_step (fail))
          refine wpQuiet_nil ?_
          refine far.farO_over (by kernel_rfl) (by rw [e1']; exact (HpG.out _).2 Y0) ?_
          simp only [Act.put, List.setIfInBounds_toArray, List.set_cons_succ, List.set_cons_zero, Nat.reduceAdd]
          have Ka := Y0
          refine far.farO_stretch pG 22 0 9 e1' e2' e3' (by kernel_rfl) (by kernel_rfl) (fun κ w' hk1 hk2 hC => hC) ?_
          simp only [List.take_succ_cons, List.take_zero, List.drop_succ_cons, List.drop_zero, Nat.reduceAdd]
          repeat (go_big_quiet_step (fail))
          refine wpQuiet_nil ?_
          refine far.farO_enter e1' e2' 1 rfl rfl 21 #[pt p] (by kernel_rfl) (by kernel_rfl) ?_
          refine ((HTT.out _ (HKx.out.then Ka)).2.1).mono ?_
          rintro e wb ⟨rfl, rfl⟩
          refine ⟨_, rfl, (HpG.out _).2 Ka, ?_⟩
          simp only [Act.put, List.setIfInBounds_toArray, List.set_cons_succ, List.set_cons_zero, Nat.reduceAdd]
          refine far.farO_stretch pG 9 0 9 e1' e2' e3' (by kernel_rfl) (by kernel_rfl) (fun κ w' hk1 hk2 hC => hC) ?_
          simp only [List.take_succ_cons, List.take_zero, List.drop_succ_cons, List.drop_zero, Nat.reduceAdd]
          repeat (go_big_quiet_step (fail))
          refine wpQuiet_nil ?_
          refine far.farO_enter e1' e2' 2 rfl rfl 23 #[pt p] (by kernel_rfl) (by kernel_rfl) ?_
          refine ((HTT.out _ (HKx.out.then Ka)).2.2.1).mono ?_
          rintro e wd ⟨a1', c1', rfl, kd, C1⟩
          have Kd := Ka.then kd
          refine ⟨_, rfl, (HpG.out _).2 Kd, ?_⟩
          simp only [Act.put, List.setIfInBounds_toArray, List.set_cons_succ, List.set_cons_zero, Nat.reduceAdd]
          refine far.farO_enter e1' e2' 3 rfl rfl 11 #[.slice a1' n c1'] (by kernel_rfl) (by kernel_rfl) ?_
          refine (C1).mono ?_
          rintro e we ⟨a2', c2', rfl, ke, C2⟩
          have Ke := Kd.then ke
          refine ⟨_, rfl, (HpG.out _).2 Ke, ?_⟩
          simp only [Act.put, List.setIfInBounds_toArray, List.set_cons_succ, List.set_cons_zero, Nat.reduceAdd]
          refine far.farO_stretch pG 4 0 9 e1' e2' e3' (by kernel_rfl) (by kernel_rfl) (fun κ w' hk1 hk2 hC => hC) ?_
          simp only [List.take_succ_cons, List.take_zero, List.drop_succ_cons, List.drop_zero, Nat.reduceAdd]
          repeat (go_big_quiet_step (fail))
          refine wpQuiet_nil ?_
          refine far.farO_enter e1' e2' 4 rfl rfl 22 #[.slice a2' n c2', .slice ap n cp] (by kernel_rfl) (by kernel_rfl) ?_
          refine (C2).mono ?_
          rintro e wf ⟨rfl, kf⟩
          have Kf := Ke.then kf
          refine ⟨_, rfl, (HpG.out _).2 Kf, ?_⟩
          simp only [Act.put, List.setIfInBounds_toArray, List.set_cons_succ, List.set_cons_zero, Nat.reduceAdd]
          clear C1 C2
          refine far.farO_stretch pG 4 0 9 e1' e2' e3' (by kernel_rfl) (by kernel_rfl) (fun κ w' hk1 hk2 hC => hC) ?_
          simp only [List.take_succ_cons, List.take_zero, List.drop_succ_cons, List.drop_zero, Nat.reduceAdd]
          repeat (go_big_quiet_step (fail))
          refine wpQuiet_nil ?_
          refine far.farO_enter e1' e2' 5 rfl rfl 25 #[pt p] (by kernel_rfl) (by kernel_rfl) ?_
          refine ((HTT.out _ (HKx.out.then Kf)).2.2.2).mono ?_
          rintro e wg ⟨a3', mm, c3', rfl, kg, C3⟩
          have Kg := Kf.then kg
          refine ⟨_, rfl, (HpG.out _).2 Kg, ?_⟩
          simp only [Act.put, List.setIfInBounds_toArray, List.set_cons_succ, List.set_cons_zero, Nat.reduceAdd]
          refine far.farO_enter e1' e2' 6 rfl rfl 19 #[.slice a3' mm c3'] (by kernel_rfl) (by kernel_rfl) ?_
          refine (C3).mono ?_
          rintro e wh ⟨a4', c4', rfl, kh, C4⟩
          have Kh := Kg.then kh
          refine ⟨_, rfl, (HpG.out _).2 Kh, ?_⟩
          simp only [Act.put, List.setIfInBounds_toArray, List.set_cons_succ, List.set_cons_zero, Nat.reduceAdd]
          refine far.farO_stretch pG 1 0 9 e1' e2' e3' (by kernel_rfl) (by kernel_rfl) (fun κ w' hk1 hk2 hC => hC) ?_
          simp only [List.take_succ_cons, List.take_zero, List.drop_succ_cons, List.drop_zero, Nat.reduceAdd]
          repeat (go_big_quiet_step (fail))
          refine wpQuiet_nil ?_
          refine far.farO_enter e1' e2' 7 rfl rfl 26 #[pt p'] (by kernel_rfl) (by kernel_rfl) ?_
          refine (C4).mono ?_
          rintro e wi ⟨a5', c5', rfl, ki, C5⟩
          have Ki := Kh.then ki
          refine ⟨_, rfl, (HpG.out _).2 Ki, ?_⟩
          simp only [Act.put, List.setIfInBounds_toArray, List.set_cons_succ, List.set_cons_zero, Nat.reduceAdd]
          refine far.farO_enter e1' e2' 8 rfl rfl 24 #[.slice a4' mm c4', .slice a5' mm c5'] (by kernel_rfl) (by kernel_rfl) ?_
          refine (C5).mono ?_
          rintro e wj ⟨rfl, kj⟩
          have Kj := Ki.then kj
          refine ⟨_, rfl, (HpG.out _).2 Kj, ?_⟩
          simp only [Act.put, List.setIfInBounds_toArray, List.set_cons_succ, List.set_cons_zero, Nat.reduceAdd]
          have HAZ : Hid (Alk w p pv cv p' pv' n wj) := AlkB.drop (AlkB.same HABH.out (HKx.out.then Kj))
          clear HTT HABH HKx C3 C4 C5 kd ke kf kg kh ki kj Kd Ke Kf Kg Kh Ki Kj Ka Y0
          refine far.farO_stretch pG 2 0 9 e1' e2' e3' (by kernel_rfl) (by kernel_rfl) (fun κ w' hk1 hk2 hC => hC) ?_
          simp only [List.take_succ_cons, List.take_zero, List.drop_succ_cons, List.drop_zero, Nat.reduceAdd]
          repeat (go_big_quiet_step (fail))
          refine wpQuiet_nil ?_
          refine far.farO_nil ?_
          clear x1 x2 x3 x4 x5 x6 x7 iG HpG
          go_wp2
          go_roundw
          case rel => exact ⟨j + 1, by omega, by go_num, HAZ.out⟩
          case measure => simp [intOf]; omega
        · obtain ⟨rfl, rfl⟩ := HFZ.out rfl
          clear HFK
          have g1 : decide ((0 : Int) ≤ d) = true := by simp; omega
          have g2 : decide (d < (n : Int)) = false := by simp; omega
          clear HI HFZ
          go_quiet (fail)
          go_upto_region 24 with fail
          obtain ⟨w7, hw7⟩ : ∃ w7, w6.drewN nq = w7 := ⟨_, rfl⟩
          simp only [hw7]
          have K7 : Chg no w6 w7 := by rw [← hw7]; exact (Chg.refl no w6).drewN nq
          clear hw7
          obtain ⟨pG, hpG⟩ : ∃ pG : World → Prop, ∀ w', pG w' ↔ Chg no w6 w' := ⟨_, fun _ => Iff.rfl⟩
          have x1 : ∀ x' : far.InC pG, x'.w.cell? ⟨PB, 1, none⟩ = some (.int .i64 d) := fun x => ((hpG _).1 x.h).cell t1 id
          have x2 : ∀ x' : far.InC pG, x'.w.cell? ⟨Y, 0, none⟩ = some (.int .i64 0) := fun x => ((hpG _).1 x.h).cell b0 id
          have x3 : ∀ x' : far.InC pG, x'.w.cell? ⟨Y, 1, none⟩ = some (.int .i64 0) := fun x => ((hpG _).1 x.h).cell b1 id
          have x4 : ∀ x' : far.InC pG, x'.w.cell? ⟨p', 0, none⟩ = some (.slice ap n cp) := fun x => ((hpG _).1 x.h).cell t5 id
          have x5 : ∀ x' : far.InC pG, p' < x'.w.heap.size := fun x => Nat.lt_of_lt_of_le tl ((hpG _).1 x.h).size
          have x6 : ∀ x' : far.InC pG, PB < x'.w.heap.size := fun x => Nat.lt_of_lt_of_le tb ((hpG _).1 x.h).size
          have x7 : ∀ x' : far.InC pG, Y < x'.w.heap.size := fun x => Nat.lt_of_lt_of_le bl ((hpG _).1 x.h).size
          have iG : Nonempty (far.InC pG) := ⟨⟨w6, (hpG _).2 (Chg.refl no w6)⟩⟩
          have HpG : Hid (∀ w', pG w' ↔ Chg no w6 w') := hpG
          have Y0 : Chg no w6 w7.drew := K7.drew
          clear hpG K7 b0 b1 bl t1 t5 tl tb
          refine far.region_farM (fun κ w' => pG w') [11, 34, 44, 45, 50, 55, 56, 58, 59] (by kernel_rfl) (by kernel_rfl) ((HpG.out _).2 Y0) ?_
          intro LL e1' e2' e3'
          refine far.farO_stretch pG 11 0 9 e1' e2' e3' (by kernel_rfl) (by kernel_rfl) (fun κ w' hk1 hk2 hC => hC) ?_
          simp only [List.take_succ_cons, List.take_zero, List.drop_succ_cons, List.drop_zero, Nat.reduceAdd]
          repeat (go_big_quiet_step (fail))
          refine wpQuiet_nil ?_
          refine far.farO_over (by kernel_rfl) (by rw [e1']; exact (HpG.out _).2 Y0) ?_
          simp only [Act.put, List.setIfInBounds_toArray, List.set_cons_succ, List.set_cons_zero, Nat.reduceAdd]
          have Ka := Y0
          refine far.farO_stretch pG 22 0 9 e1' e2' e3' (by kernel_rfl) (by kernel_rfl) (fun κ w' hk1 hk2 hC => hC) ?_
          simp only [List.take_succ_cons, List.take_zero, List.drop_succ_cons, List.drop_zero, Nat.reduceAdd]
          repeat (go_big_quiet_step (fail))
          refine wpQuiet_nil ?_
          refine far.farO_enter e1' e2' 1 rfl rfl 21 #[pt p] (by kernel_rfl) (by kernel_rfl) ?_
          refine ((HTT.out _ (HKx.out.then Ka)).2.1).mono ?_
          rintro e wb ⟨rfl, rfl⟩
          refine ⟨_, rfl, (HpG.out _).2 Ka, ?_⟩
          simp only [Act.put, List.setIfInBounds_toArray, List.set_cons_succ, List.set_cons_zero, Nat.reduceAdd]
          refine far.farO_stretch pG 9 0 9 e1' e2' e3' (by kernel_rfl) (by kernel_rfl) (fun κ w' hk1 hk2 hC => hC) ?_
          simp only [List.take_succ_cons, List.take_zero, List.drop_succ_cons, List.drop_zero, Nat.reduceAdd]
          repeat (go_big_quiet_step (fail))
          refine wpQuiet_nil ?_
          refine far.farO_enter e1' e2' 2 rfl rfl 23 #[pt p] (by kernel_rfl) (by kernel_rfl) ?_
          refine ((HTT.out _ (HKx.out.then Ka)).2.2.1).mono ?_
          rintro e wd ⟨a1', c1', rfl, kd, C1⟩
          have Kd := Ka.then kd
          refine ⟨_, rfl, (HpG.out _).2 Kd, ?_⟩
          simp only [Act.put, List.setIfInBounds_toArray, List.set_cons_succ, List.set_cons_zero, Nat.reduceAdd]
          refine far.farO_enter e1' e2' 3 rfl rfl 11 #[.slice a1' n c1'] (by kernel_rfl) (by kernel_rfl) ?_
          refine (C1).mono ?_
          rintro e we ⟨a2', c2', rfl, ke, C2⟩
          have Ke := Kd.then ke
          refine ⟨_, rfl, (HpG.out _).2 Ke, ?_⟩
          simp only [Act.put, List.setIfInBounds_toArray, List.set_cons_succ, List.set_cons_zero, Nat.reduceAdd]
          refine far.farO_stretch pG 4 0 9 e1' e2' e3' (by kernel_rfl) (by kernel_rfl) (fun κ w' hk1 hk2 hC => hC) ?_
          simp only [List.take_succ_cons, List.take_zero, List.drop_succ_cons, List.drop_zero, Nat.reduceAdd]
          repeat (go_big_quiet_step (fail))
          refine wpQuiet_nil ?_
          refine far.farO_enter e1' e2' 4 rfl rfl 22 #[.slice a2' n c2', .slice ap n cp] (by kernel_rfl) (by kernel_rfl) ?_
          refine (C2).mono ?_
          rintro e wf ⟨rfl, kf⟩
          have Kf := Ke.then kf
          refine ⟨_, rfl, (HpG.out _).2 Kf, ?_⟩
          simp only [Act.put, List.setIfInBounds_toArray, List.set_cons_succ, List.set_cons_zero, Nat.reduceAdd]
          clear C1 C2
          refine far.farO_stretch pG 4 0 9 e1' e2' e3' (by kernel_rfl) (by kernel_rfl) (fun κ w' hk1 hk2 hC => hC) ?_
          simp only [List.take_succ_cons, List.take_zero, List.drop_succ_cons, List.drop_zero, Nat.reduceAdd]
          repeat (go_big_quiet_step (fail))
          refine wpQuiet_nil ?_
          refine far.farO_enter e1' e2' 5 rfl rfl 25 #[pt p] (by kernel_rfl) (by kernel_rfl) ?_
          refine ((HTT.out _ (HKx.out.then Kf)).2.2.2).mono ?_
          rintro e wg ⟨a3', mm, c3', rfl, kg, C3⟩
          have Kg := Kf.then kg
          refine ⟨_, rfl, (HpG.out _).2 Kg, ?_⟩
          simp only [Act.put, List.setIfInBounds_toArray, List.set_cons_succ, List.set_cons_zero, Nat.reduceAdd]
          refine far.farO_enter e1' e2' 6 rfl rfl 19 #[.slice a3' mm c3'] (by kernel_rfl) (by kernel_rfl) ?_
          refine (C3).mono ?_
          rintro e wh ⟨a4', c4', rfl, kh, C4⟩
          have Kh := Kg.then kh
          refine ⟨_, rfl, (HpG.out _).2 Kh, ?_⟩
          simp only [Act.put, List.setIfInBounds_toArray, List.set_cons_succ, List.set_cons_zero, Nat.reduceAdd]
          refine far.farO_stretch pG 1 0 9 e1' e2' e3' (by kernel_rfl) (by kernel_rfl) (fun κ w' hk1 hk2 hC => hC) ?_
          simp only [List.take_succ_cons, List.take_zero, List.drop_succ_cons, List.drop_zero, Nat.reduceAdd]
          repeat (go_big_quiet_step (fail))
          refine wpQuiet_nil ?_
          refine far.farO_enter e1' e2' 7 rfl rfl 26 #[pt p'] (by kernel_rfl) (by kernel_rfl) ?_
          refine (C4).mono ?_
          rintro e wi ⟨a5', c5', rfl, ki, C5⟩
          have Ki := Kh.then ki
          refine ⟨_, rfl, (HpG.out _).2 Ki, ?_⟩
          simp only [Act.put, List.setIfInBounds_toArray, List.set_cons_succ, List.set_cons_zero, Nat.reduceAdd]
          refine far.farO_enter e1' e2' 8 rfl rfl 24 #[.slice a4' mm c4', .slice a5' mm c5'] (by kernel_rfl) (by kernel_rfl) ?_
          refine (C5).mono ?_
          rintro e wj ⟨rfl, kj⟩
          have Kj := Ki.then kj
          refine ⟨_, rfl, (HpG.out _).2 Kj, ?_⟩
          simp only [Act.put, List.setIfInBounds_toArray, List.set_cons_succ, List.set_cons_zero, Nat.reduceAdd]
          have HAZ : Hid (Alk w p pv cv p' pv' n wj) := AlkB.drop (AlkB.same HABH.out (HKx.out.then Kj))
          clear HTT HABH HKx C3 C4 C5 kd ke kf kg kh ki kj Kd Ke Kf Kg Kh Ki Kj Ka Y0
          refine far.farO_stretch pG 2 0 9 e1' e2' e3' (by kernel_rfl) (by kernel_rfl) (fun κ w' hk1 hk2 hC => hC) ?_
          simp only [List.take_succ_cons, List.take_zero, List.drop_succ_cons, List.drop_zero, Nat.reduceAdd]
          repeat (go_big_quiet_step (fail))
          refine wpQuiet_nil ?_
          refine far.farO_nil ?_
          clear x1 x2 x3 x4 x5 x6 x7 iG HpG
          go_wp2
          go_roundw
          case rel => exact ⟨j + 1, by omega, by go_num, HAZ.out⟩
          case measure => simp [intOf]; omega
        · obtain ⟨k, rfl⟩ := Int.eq_ofNat_of_zero_le d1
          obtain ⟨g, rfl, u0, u1⟩ := HFK.out k rfl (by omega)
          have u2 := (HKx.out).cell u0 id
          have u3 := (HKx.out).cell u1 id
          have g1 : decide ((0 : Int) ≤ (k : Int)) = true := decide_eq_true (by omega)
          have g2 : decide ((k : Int) < (n : Int)) = true := decide_eq_true (by omega)
          clear u0 u1 HFK
          clear HI HFZ
          go_quiet (fail)
          go_upto_region 24 with fail
          obtain ⟨w7, hw7⟩ : ∃ w7, w6.drewN nq = w7 := ⟨_, rfl⟩
          simp only [hw7]
          have K7 : Chg no w6 w7 := by rw [← hw7]; exact (Chg.refl no w6).drewN nq
          clear hw7
          obtain ⟨pG, hpG⟩ : ∃ pG : World → Prop, ∀ w', pG w' ↔ Chg no w6 w' := ⟨_, fun _ => Iff.rfl⟩
          have x1 : ∀ x' : far.InC pG, x'.w.cell? ⟨PB, 1, none⟩ = some (.int .i64 (k : Int)) := fun x => ((hpG _).1 x.h).cell t1 id
          have x2 : ∀ x' : far.InC pG, x'.w.cell? ⟨Y, 0, none⟩ = some (.int .i64 gl) := fun x => ((hpG _).1 x.h).cell b0 id
          have x3 : ∀ x' : far.InC pG, x'.w.cell? ⟨Y, 1, none⟩ = some (.int .i64 gt) := fun x => ((hpG _).1 x.h).cell b1 id
          have x4 : ∀ x' : far.InC pG, x'.w.cell? ⟨p', 0, none⟩ = some (.slice (some ⟨g, 0, none⟩) n cp) := fun x => ((hpG _).1 x.h).cell t5 id
          have x5 : ∀ x' : far.InC pG, p' < x'.w.heap.size := fun x => Nat.lt_of_lt_of_le tl ((hpG _).1 x.h).size
          have x6 : ∀ x' : far.InC pG, PB < x'.w.heap.size := fun x => Nat.lt_of_lt_of_le tb ((hpG _).1 x.h).size
          have x7 : ∀ x' : far.InC pG, Y < x'.w.heap.size := fun x => Nat.lt_of_lt_of_le bl ((hpG _).1 x.h).size
          have x8 : ∀ x' : far.InC pG, x'.w.cell? ⟨g, k * 2, none⟩ = some (.int .i64 gl) := fun x => ((hpG _).1 x.h).cell u2 id
          have x9 : ∀ x' : far.InC pG, x'.w.cell? ⟨g, k * 2 + 1, none⟩ = some (.int .i64 gt) := fun x => ((hpG _).1 x.h).cell u3 id
          have iG : Nonempty (far.InC pG) := ⟨⟨w6, (hpG _).2 (Chg.refl no w6)⟩⟩
          have HpG : Hid (∀ w', pG w' ↔ Chg no w6 w') := hpG
          have Y0 : Chg no w6 w7.drew := K7.drew
          clear hpG K7 b0 b1 bl t1 t5 tl tb u2 u3
          refine far.region_farM (fun κ w' => pG w') [11, 34, 44, 45, 50, 55, 56, 58, 59] (by kernel_rfl) (by kernel_rfl) ((HpG.out _).2 Y0) ?_
          intro LL e1' e2' e3'
          refine far.farO_stretch pG 11 0 9 e1' e2' e3' (by kernel_rfl) (by kernel_rfl) (fun κ w' hk1 hk2 hC => hC) ?_
          simp only [List.take_succ_cons, List.take_zero, List.drop_succ_cons, List.drop_zero, Nat.reduceAdd]
          repeat (go_big_quiet_step (fail))
          refine wpQuiet_nil ?_
          refine far.farO_enter e1' e2' 0 rfl rfl 14 #[nv gl gt] (by kernel_rfl) (by kernel_rfl) ?_
          refine (place_any _ gl gt).mono ?_
          rintro e wa ⟨rfl, ka⟩
          have Ka := Y0.then ka
          refine ⟨_, rfl, (HpG.out _).2 Ka, ?_⟩
          simp only [Act.put, List.setIfInBounds_toArray, List.set_cons_succ, List.set_cons_zero, Nat.reduceAdd]
          refine far.farO_stretch pG 22 0 9 e1' e2' e3' (by kernel_rfl) (by kernel_rfl) (fun κ w' hk1 hk2 hC => hC) ?_
          simp only [List.take_succ_cons, List.take_zero, List.drop_succ_cons, List.drop_zero, Nat.reduceAdd]
          repeat (go_big_quiet_step (fail))
          refine wpQuiet_nil ?_
          refine far.farO_enter e1' e2' 1 rfl rfl 21 #[pt p] (by kernel_rfl) (by kernel_rfl) ?_
          refine ((HTT.out _ (HKx.out.then Ka)).2.1).mono ?_
          rintro e wb ⟨rfl, rfl⟩
          refine ⟨_, rfl, (HpG.out _).2 Ka, ?_⟩
          simp only [Act.put, List.setIfInBounds_toArray, List.set_cons_succ, List.set_cons_zero, Nat.reduceAdd]
          refine far.farO_stretch pG 9 0 9 e1' e2' e3' (by kernel_rfl) (by kernel_rfl) (fun κ w' hk1 hk2 hC => hC) ?_
          simp only [List.take_succ_cons, List.take_zero, List.drop_succ_cons, List.drop_zero, Nat.reduceAdd]
          repeat (go_big_quiet_step (fail))
          refine wpQuiet_nil ?_
          refine far.farO_enter e1' e2' 2 rfl rfl 23 #[pt p] (by kernel_rfl) (by kernel_rfl) ?_
          refine ((HTT.out _ (HKx.out.then Ka)).2.2.1).mono ?_
          rintro e wd ⟨a1', c1', rfl, kd, C1⟩
          have Kd := Ka.then kd
          refine ⟨_, rfl, (HpG.out _).2 Kd, ?_⟩
          simp only [Act.put, List.setIfInBounds_toArray, List.set_cons_succ, List.set_cons_zero, Nat.reduceAdd]
          refine far.farO_enter e1' e2' 3 rfl rfl 11 #[.slice a1' n c1'] (by kernel_rfl) (by kernel_rfl) ?_
          refine (C1).mono ?_
          rintro e we ⟨a2', c2', rfl, ke, C2⟩
          have Ke := Kd.then ke
          refine ⟨_, rfl, (HpG.out _).2 Ke, ?_⟩
          simp only [Act.put, List.setIfInBounds_toArray, List.set_cons_succ, List.set_cons_zero, Nat.reduceAdd]
          refine far.farO_stretch pG 4 0 9 e1' e2' e3' (by kernel_rfl) (by kernel_rfl) (fun κ w' hk1 hk2 hC => hC) ?_
          simp only [List.take_succ_cons, List.take_zero, List.drop_succ_cons, List.drop_zero, Nat.reduceAdd]
          repeat (go_big_quiet_step (fail))
          refine wpQuiet_nil ?_
          refine far.farO_enter e1' e2' 4 rfl rfl 22 #[.slice a2' n c2', .slice (some ⟨g, 0, none⟩) n cp] (by kernel_rfl) (by kernel_rfl) ?_
          refine (C2).mono ?_
          rintro e wf ⟨rfl, kf⟩
          have Kf := Ke.then kf
          refine ⟨_, rfl, (HpG.out _).2 Kf, ?_⟩
          simp only [Act.put, List.setIfInBounds_toArray, List.set_cons_succ, List.set_cons_zero, Nat.reduceAdd]
          clear C1 C2
          refine far.farO_stretch pG 4 0 9 e1' e2' e3' (by kernel_rfl) (by kernel_rfl) (fun κ w' hk1 hk2 hC => hC) ?_
          simp only [List.take_succ_cons, List.take_zero, List.drop_succ_cons, List.drop_zero, Nat.reduceAdd]
          repeat (go_big_quiet_step (fail))
          refine wpQuiet_nil ?_
          refine far.farO_enter e1' e2' 5 rfl rfl 25 #[pt p] (by kernel_rfl) (by kernel_rfl) ?_
          refine ((HTT.out _ (HKx.out.then Kf)).2.2.2).mono ?_
          rintro e wg ⟨a3', mm, c3', rfl, kg, C3⟩
          have Kg := Kf.then kg
          refine ⟨_, rfl, (HpG.out _).2 Kg, ?_⟩
          simp only [Act.put, List.setIfInBounds_toArray, List.set_cons_succ, List.set_cons_zero, Nat.reduceAdd]
          refine far.farO_enter e1' e2' 6 rfl rfl 19 #[.slice a3' mm c3'] (by kernel_rfl) (by kernel_rfl) ?_
          refine (C3).mono ?_
          rintro e wh ⟨a4', c4', rfl, kh, C4⟩
          have Kh := Kg.then kh
          refine ⟨_, rfl, (HpG.out _).2 Kh, ?_⟩
          simp only [Act.put, List.setIfInBounds_toArray, List.set_cons_succ, List.set_cons_zero, Nat.reduceAdd]
          refine far.farO_stretch pG 1 0 9 e1' e2' e3' (by kernel_rfl) (by kernel_rfl) (fun κ w' hk1 hk2 hC => hC) ?_
          simp only [List.take_succ_cons, List.take_zero, List.drop_succ_cons, List.drop_zero, Nat.reduceAdd]
          repeat (go_big_quiet_step (fail))
          refine wpQuiet_nil ?_
          refine far.farO_enter e1' e2' 7 rfl rfl 26 #[pt p'] (by kernel_rfl) (by kernel_rfl) ?_
          refine (C4).mono ?_
          rintro e wi ⟨a5', c5', rfl, ki, C5⟩
          have Ki := Kh.then ki
          refine ⟨_, rfl, (HpG.out _).2 Ki, ?_⟩
          simp only [Act.put, List.setIfInBounds_toArray, List.set_cons_succ, List.set_cons_zero, Nat.reduceAdd]
          refine far.farO_enter e1' e2' 8 rfl rfl 24 #[.slice a4' mm c4', .slice a5' mm c5'] (by kernel_rfl) (by kernel_rfl) ?_
          refine (C5).mono ?_
          rintro e wj ⟨rfl, kj⟩
          have Kj := Ki.then kj
          refine ⟨_, rfl, (HpG.out _).2 Kj, ?_⟩
          simp only [Act.put, List.setIfInBounds_toArray, List.set_cons_succ, List.set_cons_zero, Nat.reduceAdd]
          have HAZ : Hid (Alk w p pv cv p' pv' n wj) := AlkB.drop (AlkB.same HABH.out (HKx.out.then Kj))
          clear HTT HABH HKx C3 C4 C5 kd ke kf kg kh ki kj Kd Ke Kf Kg Kh Ki Kj Ka Y0
          refine far.farO_stretch pG 2 0 9 e1' e2' e3' (by kernel_rfl) (by kernel_rfl) (fun κ w' hk1 hk2 hC => hC) ?_
          simp only [List.take_succ_cons, List.take_zero, List.drop_succ_cons, List.drop_zero, Nat.reduceAdd]
          repeat (go_big_quiet_step (fail))
          refine wpQuiet_nil ?_
          refine far.farO_nil ?_
          clear x1 x2 x3 x4 x5 x6 x7 x8 x9 iG HpG
          go_wp2
          go_roundw
          case rel => exact ⟨j + 1, by omega, by go_num, HAZ.out⟩
          case measure => simp [intOf]; omega
    · obtain rfl : j = m := by omega
      have hji : (j : Int) ≤ (j : Int) := by omega
      have K := hA.chg
      clear hA
      go_wp2_with fail
      refine (first_any _).mono ?_
      rintro e wz ⟨rfl, kz⟩
      go_wp2
      go_ret
      exact ⟨rfl, (K.then kz).below⟩

theorem walk (w : World) (a0 : Option Addr) (l0 c0 : Nat) (ps : List (Int × Int)) (a1 : Option Addr) (l1 c1 : Nat) (O : Nat → OpA) (w0 : ps.length = l0 ∧ Lie (Old w) w (.slice a0 l0 c0) ps.length (ps.flatMap f2)) (k0 : l0 ≤ c0 ∧ c0 ≤ maxLen) (w1 : OpsAt w a1 l1 O) (k1 : l1 ≤ c1 ∧ c1 ≤ maxLen) :
    Calls Try.prog 3 #[.slice a0 l0 c0, .slice a1 l1 c1] w fun e w' => e = .returned (.bool true) ∧ Below w.heap.size w w' := by
  by_cases hh : 100 < l0
  · exact early w a0 l0 c0 _ hh
  · obtain ⟨rfl, h0⟩ := w0
    exact late w a0 c0 ps a1 l1 c1 O h0 (by omega) w1 k1.1 k1.2

theorem own : ownKnob Try.prog.godebug = none := by kernel_rfl
theorem laidOut : laidOutB Try.prog = true := by kernel_rfl

set_option maxRecDepth 100000 in
theorem lifted (os : Os) (started : os.Started) (H : Type) (enc : TypeId × Value → H) :
    ReturnsInHanded {} Try.checked os 3 .any (Rows.posPlaysSpec.pre6 enc Try.prog Try.f3 Rows.posPlaysRow.domain false) (Rows.posPlaysSpec.post enc Try.prog Try.f3 false true false false) := by
  refine returnsInHanded_of_change (C := Try.checked) own started (by kernel_rfl) Try.func3
    (ChangeSpec.witness6 (enc := enc) (C := Try.checked) false ⟨#[], #[.slice none 0 0, .slice none 0 0], []⟩ 8 (by kernel_rfl) (by kernel_rfl) (by kernel_rfl) (by kernel_rfl)) ?_
  intro W base args ds gs before hval0 hW hcnd _
  have hval : ∀ (j : Nat) t v, Try.f3.params[j]? = some t → args[j]? = some v → Value.okWide Try.prog W .any base t v := hval0
  have hW' := hW
  obtain ⟨p, q, hA0, hV, rfl, hfz, hnd⟩ := hW
  have hA : DataW.TrodAll enc Try.prog W 0 (fun _ => true) true Try.f3.params.toList args.toList ds p := hA0
  rw [Try.params3] at hA hval
  obtain ⟨v0, vs0, d0, ds0, p0, q0, hargs, rfl, rfl, h0, r0⟩ := trodAll_cons hA
  obtain ⟨v1, vs1, d1, ds1, p1, q1, rfl, rfl, rfl, h1, r1⟩ := trodAll_cons r0
  obtain ⟨rfl, rfl, rfl⟩ := trodAll_nil r1
  obtain rfl : args = #[v0, v1] := by cases args; simp_all
  obtain ⟨rfl, rfl⟩ := trodVars_none hV
  obtain ⟨a0, len0, cap0, rfl⟩ := okWide_slice Try.underlying22 (hval 0 22 v0 rfl rfl)
  have k0 := h0
  have lt0 : ∀ x ∈ p0, x.block < W.heap.size := by obtain ⟨m, hm⟩ := k0; exact DataW.trod_lt m _ _ _ hm
  have c0 : len0 ≤ cap0 ∧ cap0 ≤ maxLen := by obtain ⟨m, hm⟩ := k0; exact open_cap Try.underlying22 hm
  obtain ⟨z0, w0⟩ := (by obtain ⟨fuel, hf⟩ := h0; exact open_places hf : ∃ z : List (Int × Int), z.length = len0 ∧ Lie (Old W) W (.slice a0 len0 cap0) z.length (z.flatMap f2))
  obtain ⟨a1, len1, cap1, rfl⟩ := okWide_slice Try.underlying23 (hval 1 23 v1 rfl rfl)
  have k1 := h1
  have lt1 : ∀ x ∈ p1, x.block < W.heap.size := by obtain ⟨m, hm⟩ := k1; exact DataW.trod_lt m _ _ _ hm
  have c1 : len1 ≤ cap1 ∧ cap1 ≤ maxLen := by obtain ⟨m, hm⟩ := k1; exact open_cap Try.underlying23 hm
  obtain ⟨z1, w1⟩ := (by obtain ⟨fuel, hf⟩ := h1; exact open_ops hf : ∃ z : Nat → OpA, OpsAt W a1 len1 z)
  clear hA0 hval0
  refine (walk W a0 len0 cap0 z0 a1 len1 cap1 z1 w0 c0 w1 c1).mono fun e W' ⟨he, bel⟩ => ?_
  subst he
  exact ⟨_, rfl, _, _, _, [], _, [], hW', trodAll_mk1 (shut_bool Try.underlying4 _), (trodAll_cons_mk (Below.trod laidOut (by kernel_rfl) (of_decide_eq_true (by kernel_rfl)) k0 bel lt0) (trodAll_cons_mk (Below.trod laidOut (by kernel_rfl) (of_decide_eq_true (by kernel_rfl)) k1 bel lt1) trodAll_mk0)), rfl, bel.frame _, fun h => by cases h⟩

theorem over : Rows.posPlaysRow.holds Try.pinned (OpenSpec.ofChange Rows.posPlaysSpec) :=
  OpenClaim.holds_of_wide 3 Try.f3 rfl rfl rfl rfl rfl rfl rfl ⟨rfl, rfl, rfl, rfl, rfl⟩ rfl rfl rfl rfl rfl (by kernel_rfl) Try.func3 (by kernel_rfl)
    (of_decide_eq_true (by kernel_rfl)) (by unfold Func.isWrapper; first | (rw [if_pos (by decide +kernel)]; kernel_rfl) | (rw [if_neg (by decide +kernel)]; exact ⟨rfl, rfl⟩))
    (fun os started H enc _ => lifted os started H enc)

theorem proved : Rows.PosPlaysSaid := over
#print axioms proved
end Go.Proofs.Ytocbmjkbbbmncaa.posPlays
namespace Go.Proofs.Ytocbmjkbbbmncaa
theorem posPlays_holds : Rows.PosPlaysSaid := posPlays.proved
#print axioms posPlays_holds
end Go.Proofs.Ytocbmjkbbbmncaa
