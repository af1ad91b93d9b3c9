/-
  Proved: for every list of operations the law TraceFails returns true and leaves its argument as it was; no condition.
-/
import Derived.Test.YteehphmedmplkaaFailsS
import Derived.Test.YteehphmedmplkaaFar
import Derived.Deep.CutBlock
import Derived.Below
namespace Go.Proofs.Yteehphmedmplkaa.traceFails
open Go.ChangeShapes Go.WideShapes Go.ChangeAt Go.RowKit Go.Proofs.Yteehphmedmplkaa.hp Go.Proofs.Yteehphmedmplkaa.md Go.Proofs.Yteehphmedmplkaa.st Go.Proofs.Yteehphmedmplkaa.pl
set_option linter.unusedVariables false

set_option maxRecDepth 100000 in
set_option maxHeartbeats 16000000 in
theorem walk (w : World) (a2 : Option Addr) (len2 cap2 : Nat) (O : Nat → OpA) (A2 : OpsAt w a2 len2 O) (c2 : len2 ≤ cap2) :
    Calls Try.prog 6 #[.slice a2 len2 cap2] w fun e w' => e = .returned (.bool true) ∧ Below w.heap.size w w' := by
  have FW : ∀ w', Chg no w w' → Calls Try.prog 9 #[.slice a2 len2 cap2] w' (FewRes len2 O w') := fun w' c => few_any (ops_later A2 c) cap2
  have HO : Hid (OpsAt w a2 len2 O) := A2
  clear A2 c2
  go_enter Try.func6, Try.ntmps6
  go_wp2_with fail
  refine (first_any _).mono ?_
  rintro e w1 ⟨rfl, k1⟩
  go_wp2_with fail
  refine (made_in 3 2 (by omega) (by omega) (by omega) (by omega)).mono ?_
  rintro e w2 ⟨r, p, rfl, s2, k2⟩
  have K2 := k1.then k2
  have z1 := k1.size
  have z2 := k2.size
  have E2 : EE w r p 0 0 w2 := ⟨_, _, _, s2, fun j hj => by omega, Nat.le_refl _, rfl, Nat.le_refl _, by simp [Mod.new], by simp, K2⟩
  clear s2 k1 k2
  go_wp2_with fail
  refine (FW _ K2).mono ?_
  rintro e w3 ⟨b3, rfl, hb3, k3⟩
  have E3 := E2.same k3
  have K3 := K2.then k3
  clear E2 K2 FW
  rcases b3 with _ | _
  · clear hb3 E3
    go_wp2_with fail
    refine (first_any _).mono ?_
    rintro e w4 ⟨rfl, k4⟩
    go_wp2
    go_ret
    exact ⟨rfl, (K3.then k4).below⟩
  have HF : Hid (FewIs len2 O) := hb3 rfl
  clear hb3
  by_cases hl : 100 < len2
  · have hli : (100 : Int) < len2 := by omega
    clear E3
    go_wp2_with fail
    refine (first_any _).mono ?_
    rintro e w4 ⟨rfl, k4⟩
    go_wp2
    go_ret
    exact ⟨rfl, (K3.then k4).below⟩
  have hli : (len2 : Int) ≤ 100 := by omega
  clear K3
  go_wp2_with fail
  go_loopw [4, 5] (fun v i wr => ∃ j n : Nat, j ≤ len2 ∧ n ≤ j ∧ v = .int .i64 (n : Int) ∧ i = .int .i64 (j : Int) ∧ EE w r p j n wr) (fun _ i _ => len2 - (intOf i).toNat)
  case atStart => exact ⟨0, 0, by omega, by omega, rfl, rfl, E3⟩
  case round =>
    clear E3
    obtain ⟨j, n, hj, hnj, rfl, rfl, F, m, T, hE⟩ := hrel
    by_cases hjn : j < len2
    · have hji : (j : Int) < len2 := by omega
      obtain ⟨x, ab, cb, ak, ck, rfl, hb, hk', e0, e1, e2, e3, l2, l3⟩ := HO.out.at hE.chg j hjn
      have hbl : (O j).bs.length ≤ 20000 := HF.out.2 j hjn
      have hwf : (Lit.int .i64 (O j).addr).wf = true := by obtain ⟨x', hx', _, _, _, _, _, _, _, hw⟩ := HO.out j hjn; exact hw
      obtain ⟨o, ho⟩ : ∃ o, O j = o := ⟨_, rfl⟩
      rw [ho] at e0 e1 e2 e3 l2 l3 hbl hwf
      obtain ⟨kind, A, bv, zs, kv, bs⟩ := o
      simp only at e0 e1 e2 e3 l2 l3 hbl hwf
      clear hb hk' ho
      go_upto_block 2 with fail
      have hA : A ≤ 9223372036854775807 := (bounds_i64 hwf).2
      have hk1 : j ≤ 1000 := by omega
      have hp := hE.rc.ptr
      have hEW := hE.same (Chg.refl no _).drew
      have HR := eread hE hk1 A
      have HW := ewrite hEW hk1 A ab cb zs (l2.chg (Chg.refl no _).drew (fun _ _ h => h))
      have HY := esync hE hk1
      have HM := earm hEW A hA ak ck bs (l3.chg (Chg.refl no _).drew (fun _ _ h => h)) hbl
      have HC := ecrash hEW hk1 ak ck bs (l3.chg (Chg.refl no _).drew (fun _ _ h => h)) hbl
      have HB := ereboot hE
      have HE : Hid (EE w r p (j + 1) n wr) := ⟨F, m, T, hE.rc, hE.fw, by have := hE.ops; omega, hE.len, hE.le, hE.kp, hE.zs, hE.chg⟩
      have HM1 : Hid (∀ w', EE w r p j n w' → EE w r p (j + 1) n w') := fun w' h => by obtain ⟨F, m, T, hE⟩ := h; exact ⟨F, m, T, hE.rc, hE.fw, by have := hE.ops; omega, hE.len, hE.le, hE.kp, hE.zs, hE.chg⟩
      clear hE hEW l2 l3 hwf hA
      go_cut [6] from 27 to 120 (fun y wc => ∃ z, y = .int .i64 z ∧ Ans w r p (j + 1) n z wc)
      case first =>
        by_cases hk0 : kind = 0
        · subst hk0
          clear HW HY HM HC HB
          go_wp2_with fail
          refine HR.mono ?_
          rintro e w5 ⟨x5, l5, c5, y5, rfl, hP⟩
          go_wp2
          go_meet
          case rel => exact ⟨_, rfl, hP⟩
        by_cases hk2 : kind = 2
        · subst hk2
          clear HW HR HM HC HB
          go_wp2_with fail
          refine HY.mono ?_
          rintro e w5 ⟨y5, rfl, hP⟩
          go_wp2
          go_meet
          case rel => exact ⟨_, rfl, hP⟩
        by_cases hk5 : kind = 5
        · subst hk5
          clear HW HR HM HC HY
          go_wp2_with fail
          refine HB.mono ?_
          rintro e w5 ⟨b5, rfl, hP⟩
          go_wp2
          go_meet
          case rel => exact ⟨_, rfl, .inr ⟨by omega, HM1.out _ hP⟩⟩
        obtain ⟨pG, hpG⟩ : ∃ pG : World → Prop, ∀ w', pG w' ↔ (w'.cell? ⟨r, 0, none⟩ = some (.pointer (some ⟨p, 0, none⟩)) ∧ w'.cell? ⟨(x.add (j * 4)).block, (x.add (j * 4)).off + 1, none⟩ = some (.int .i64 A) ∧ w'.cell? ⟨(x.add (j * 4)).block, (x.add (j * 4)).off + 2, none⟩ = some (.slice ab zs.length cb) ∧ w'.cell? ⟨(x.add (j * 4)).block, (x.add (j * 4)).off + 3, none⟩ = some (.slice ak bs.length ck)) := ⟨_, fun _ => Iff.rfl⟩
        obtain ⟨pT, hpT⟩ : ∃ pT : World → Prop, ∀ w', pT w' ↔ True := ⟨_, fun _ => Iff.rfl⟩
        have hx0 : ∀ x' : far.InC pG, x'.w.cell? ⟨r, 0, none⟩ = some (.pointer (some ⟨p, 0, none⟩)) := fun x => ((hpG _).1 x.h).1
        have hx1 : ∀ x' : far.InC pG, x'.w.cell? ⟨(x.add (j * 4)).block, (x.add (j * 4)).off + 1, none⟩ = some (.int .i64 A) := fun x => ((hpG _).1 x.h).2.1
        have hx2 : ∀ x' : far.InC pG, x'.w.cell? ⟨(x.add (j * 4)).block, (x.add (j * 4)).off + 2, none⟩ = some (.slice ab zs.length cb) := fun x => ((hpG _).1 x.h).2.2.1
        have hx3 : ∀ x' : far.InC pG, x'.w.cell? ⟨(x.add (j * 4)).block, (x.add (j * 4)).off + 3, none⟩ = some (.slice ak bs.length ck) := fun x => ((hpG _).1 x.h).2.2.2
        have iG : Nonempty (far.InC pG) := ⟨⟨wr, (hpG _).2 ⟨hp, e1, e2, e3⟩⟩⟩
        have iT : Nonempty (far.InC pT) := ⟨⟨wr, (hpT _).2 trivial⟩⟩
        have HpT : Hid (∀ w', pT w' ↔ True) := hpT
        have HYG : Hid (pG wr.drew) := (hpG _).2 ⟨hp, e1, e2, e3⟩
        clear hpG hpT HY HR HB
        by_cases hk1' : kind = 1
        · subst hk1'
          clear HM HC
          go_wp2_with fail
          refine far.region_farM (fun κ w' => κ ≤ 0 → pG w') [11] (by kernel_rfl) (by kernel_rfl) (fun _ => HYG.out) ?_
          intro L e1' e2' e3'
          refine far.farO_stretch pG 11 0 0 e1' e2' e3' (by kernel_rfl) (by kernel_rfl) (fun κ w' hk1 hk2 hC => hC (by omega)) ?_
          simp only [List.take_succ_cons, List.take_zero, List.drop_succ_cons, List.drop_zero, Nat.reduceAdd]
          repeat (go_big_quiet_step (fail))
          refine wpQuiet_nil ?_
          refine far.farO_enter e1' e2' 0 rfl rfl 15 #[.pointer (some ⟨r, 0, none⟩), .int .i64 A, .slice ab zs.length cb] (by kernel_rfl) (by kernel_rfl) ?_
          refine HW.mono ?_
          rintro e w5 ⟨y5, rfl, hP⟩
          refine ⟨_, rfl, fun h => by omega, ?_⟩
          simp only [Act.put, List.setIfInBounds_toArray, List.set_cons_succ, List.set_cons_zero, Nat.reduceAdd]
          refine far.farO_stretch pT 1 1 1 e1' e2' e3' (by kernel_rfl) (by kernel_rfl) (fun κ w' hk1 hk2 hC => (HpT.out _).2 trivial) ?_
          simp only [List.take_succ_cons, List.take_zero, List.drop_succ_cons, List.drop_zero, Nat.reduceAdd]
          repeat (go_big_quiet_step (fail))
          refine wpQuiet_nil ?_
          refine far.farO_nil ?_
          clear hx0 hx1 hx2 hx3 HW
          go_wp2
          go_meet
          case rel => exact ⟨_, rfl, hP⟩
        by_cases hk3 : kind = 3
        · subst hk3
          clear HW HC
          go_wp2_with fail
          refine far.region_farM (fun κ w' => κ ≤ 0 → pG w') [14] (by kernel_rfl) (by kernel_rfl) (fun _ => HYG.out) ?_
          intro L e1' e2' e3'
          refine far.farO_stretch pG 14 0 0 e1' e2' e3' (by kernel_rfl) (by kernel_rfl) (fun κ w' hk1 hk2 hC => hC (by omega)) ?_
          simp only [List.take_succ_cons, List.take_zero, List.drop_succ_cons, List.drop_zero, Nat.reduceAdd]
          repeat (go_big_quiet_step (fail))
          refine wpQuiet_nil ?_
          refine far.farO_enter e1' e2' 0 rfl rfl 19 #[.pointer (some ⟨p, 0, none⟩), .int .i64 A, .slice ak bs.length ck] (by kernel_rfl) (by kernel_rfl) ?_
          refine HM.mono ?_
          rintro e w5 ⟨y5, rfl, hP⟩
          refine ⟨_, rfl, fun h => by omega, ?_⟩
          simp only [Act.put, List.setIfInBounds_toArray, List.set_cons_succ, List.set_cons_zero, Nat.reduceAdd]
          refine far.farO_nil ?_
          clear hx0 hx1 hx2 hx3 HM
          go_wp2
          go_meet
          case rel => exact ⟨_, rfl, .inr ⟨by omega, HM1.out _ hP⟩⟩
        by_cases hk4 : kind = 4
        · subst hk4
          clear HW HM
          go_wp2_with fail
          refine far.region_farM (fun κ w' => κ ≤ 0 → pG w') [9] (by kernel_rfl) (by kernel_rfl) (fun _ => HYG.out) ?_
          intro L e1' e2' e3'
          refine far.farO_stretch pG 9 0 0 e1' e2' e3' (by kernel_rfl) (by kernel_rfl) (fun κ w' hk1 hk2 hC => hC (by omega)) ?_
          simp only [List.take_succ_cons, List.take_zero, List.drop_succ_cons, List.drop_zero, Nat.reduceAdd]
          repeat (go_big_quiet_step (fail))
          refine wpQuiet_nil ?_
          refine far.farO_enter e1' e2' 0 rfl rfl 21 #[.pointer (some ⟨p, 0, none⟩), .slice ak bs.length ck] (by kernel_rfl) (by kernel_rfl) ?_
          refine HC.mono ?_
          rintro e w5 ⟨y5, rfl, hP⟩
          refine ⟨_, rfl, fun h => by omega, ?_⟩
          simp only [Act.put, List.setIfInBounds_toArray, List.set_cons_succ, List.set_cons_zero, Nat.reduceAdd]
          refine far.farO_nil ?_
          clear hx0 hx1 hx2 hx3 HC
          go_wp2
          go_meet
          case rel => exact ⟨_, rfl, .inr ⟨by omega, HM1.out _ hP⟩⟩
        clear HM HC HW hx0 hx1 hx2 hx3
        go_wp2
        go_meet
        case rel => exact ⟨_, rfl, .inr ⟨by omega, HE.out⟩⟩
      case rest =>
        clear HR HW HY HM HC HB HE HM1 hp e0 e1 e2 e3
        obtain ⟨z, rfl, hz⟩ := hcut
        rcases hz with ⟨rfl, F5, m5, T5, hE5⟩ | ⟨hz0, F5, m5, T5, hE5⟩
        · have MK := mark_any hE5.rc
          have OP := eops hE5
          have hp5 := hE5.rc.ptr
          have hle := hE5.le
          rw [hE5.len] at MK
          have HE5 : Hid (EE w r p (j + 1) (n + 1) wc) := ⟨_, _, _, hE5⟩
          obtain ⟨P, hP⟩ : ∃ P, m5.ops = P := ⟨_, rfl⟩
          rw [hP] at OP hle
          have hni : ((n : Int) + 1) ≤ P := by omega
          have hnn : (((n + 1 : Nat)) : Int) = (n : Int) + 1 := by omega
          rw [hnn] at MK
          clear hE5 hP hnn
          go_wp2_with fail
          refine MK.mono ?_
          rintro e w6 ⟨rfl, rfl⟩
          go_wp2_with fail
          refine OP.mono ?_
          rintro e w6 ⟨rfl, rfl⟩
          clear MK OP
          go_wp2
          go_roundw
          case rel => exact ⟨j + 1, n + 1, by omega, by omega, by go_num, by go_num, HE5.out⟩
          case measure => simp [intOf]; omega
        · have MK := mark_any hE5.rc
          have OP := eops hE5
          have hp5 := hE5.rc.ptr
          have hle := hE5.le
          rw [hE5.len] at MK
          have HE5 : Hid (EE w r p (j + 1) n wc) := ⟨_, _, _, hE5⟩
          obtain ⟨P, hP⟩ : ∃ P, m5.ops = P := ⟨_, rfl⟩
          rw [hP] at OP hle
          have hni : (n : Int) ≤ P := by omega
          clear hE5 hP
          go_wp2_with fail
          refine MK.mono ?_
          rintro e w6 ⟨rfl, rfl⟩
          go_wp2_with fail
          refine OP.mono ?_
          rintro e w6 ⟨rfl, rfl⟩
          clear MK OP
          go_wp2
          go_roundw
          case rel => exact ⟨j + 1, n, by omega, by omega, rfl, by go_num, HE5.out⟩
          case measure => simp [intOf]; omega
    · obtain rfl : j = len2 := by omega
      have hji : (j : Int) ≤ (j : Int) := by omega
      have hC := hE.chg
      have hlen := hE.len
      have hzs := hE.zs
      have TR : ∀ w', Chg no wr w' → Calls Try.prog 33 #[.pointer (some ⟨r, 0, none⟩)] w' fun e w'' => ∃ g, e = .returned (.slice (some ⟨g, 0, none⟩) n n) ∧ Chg no w' w'' := fun w' c => by
        refine (trace_any (hE.rc.same c) (by have := hE.le; have := hE.ops; omega) hzs).mono ?_
        rintro e w'' ⟨g, rfl, hg, L⟩
        obtain ⟨xs, T', gx, hxl, hxt, hT, hb, C⟩ := L
        exact ⟨g, by rw [hlen], C⟩
      clear hE hlen hzs
      go_wp2_with fail
      refine (first_any _).mono ?_
      rintro e w5 ⟨rfl, k5⟩
      go_wp2_with fail
      refine (TR _ k5).mono ?_
      rintro e w6 ⟨g, rfl, k6⟩
      go_wp2
      go_ret
      exact ⟨rfl, ((hC.then k5).then k6).below⟩

theorem own : ownKnob Try.prog.godebug = none := by kernel_rfl
theorem laidOut : laidOutB Try.prog = true := by kernel_rfl

set_option maxRecDepth 100000 in
theorem lifted (os : Os) (started : os.Started) (H : Type) (enc : TypeId × Value → H) :
    ReturnsInHanded {} Try.checked os 6 .any (Rows.traceFailsSpec.pre6 enc Try.prog Try.f6 Rows.traceFailsRow.domain false) (Rows.traceFailsSpec.post enc Try.prog Try.f6 false true false false) := by
  refine returnsInHanded_of_change (C := Try.checked) own started (by kernel_rfl) Try.func6
    (ChangeSpec.witness6 (enc := enc) (C := Try.checked) false ⟨#[], #[.slice none 0 0], []⟩ 8 (by kernel_rfl) (by kernel_rfl) (by kernel_rfl) (by kernel_rfl)) ?_
  intro W base args ds gs before hval0 hW hcnd _
  have hval : ∀ (j : Nat) t v, Try.f6.params[j]? = some t → args[j]? = some v → Value.okWide Try.prog W .any base t v := hval0
  have hW' := hW
  obtain ⟨p, q, hA0, hV, rfl, hfz, hnd⟩ := hW
  have hA : DataW.TrodAll enc Try.prog W 0 (fun _ => true) true Try.f6.params.toList args.toList ds p := hA0
  rw [Try.params6] at hA hval
  obtain ⟨v0, vs0, d0, ds0, p0, q0, hargs, rfl, rfl, h0, r0⟩ := trodAll_cons hA
  obtain ⟨rfl, rfl, rfl⟩ := trodAll_nil r0
  obtain rfl : args = #[v0] := by cases args; simp_all
  obtain ⟨rfl, rfl⟩ := trodVars_none hV
  obtain ⟨a0, len0, cap0, rfl⟩ := okWide_slice Try.underlying22 (hval 0 22 v0 rfl rfl)
  have k0 := h0
  have lt0 : ∀ x ∈ p0, x.block < W.heap.size := by obtain ⟨m, hm⟩ := k0; exact DataW.trod_lt m _ _ _ hm
  have c0 : len0 ≤ cap0 := by obtain ⟨m, hm⟩ := k0; exact (open_cap Try.underlying22 hm).1
  obtain ⟨O0, w0⟩ := (by obtain ⟨fuel, hf⟩ := h0; exact open_ops hf : ∃ z : Nat → OpA, OpsAt W a0 len0 z)
  clear hA0 hval0
  refine (walk W a0 len0 cap0 O0 w0 c0).mono fun e W' ⟨he, bel⟩ => ?_
  subst he
  exact ⟨_, rfl, _, _, _, [], _, [], hW', trodAll_mk1 (shut_bool Try.underlying4 _), (trodAll_cons_mk (Below.trod laidOut (by kernel_rfl) (of_decide_eq_true (by kernel_rfl)) k0 bel lt0) trodAll_mk0), rfl, bel.frame _, fun h => by cases h⟩

theorem over : Rows.traceFailsRow.holds Try.pinned (OpenSpec.ofChange Rows.traceFailsSpec) :=
  OpenClaim.holds_of_wide 6 Try.f6 rfl rfl rfl rfl rfl rfl rfl ⟨rfl, rfl, rfl, rfl, rfl⟩ rfl rfl rfl rfl rfl (by kernel_rfl) Try.func6 (by kernel_rfl)
    (of_decide_eq_true (by kernel_rfl)) (by unfold Func.isWrapper; first | (rw [if_pos (by decide +kernel)]; kernel_rfl) | (rw [if_neg (by decide +kernel)]; exact ⟨rfl, rfl⟩))
    (fun os started H enc _ => lifted os started H enc)

theorem proved : Rows.TraceFailsSaid := over
end Go.Proofs.Yteehphmedmplkaa.traceFails
namespace Go.Proofs.Yteehphmedmplkaa
theorem traceFails_holds : Rows.TraceFailsSaid := traceFails.proved
#print axioms traceFails_holds
end Go.Proofs.Yteehphmedmplkaa
