/-
  Proved: for every number n and every list of operations the law TraceAgain returns true and leaves its arguments as they were; no condition.
-/
import Derived.Test.YteehphmedmplkaaAgainD
import Derived.Test.YteehphmedmplkaaFar
import Derived.Deep.CutBlock
import Derived.Below
namespace Go.Proofs.Yteehphmedmplkaa.traceAgain
open Go.ChangeShapes Go.WideShapes Go.ChangeAt Go.RowKit Go.Proofs.Yteehphmedmplkaa.hp Go.Proofs.Yteehphmedmplkaa.md Go.Proofs.Yteehphmedmplkaa.st Go.Proofs.Yteehphmedmplkaa.pl
set_option linter.unusedVariables false

set_option maxRecDepth 100000 in
set_option maxHeartbeats 2000000 in
theorem early (w : World) (a0 : Int) (a2 : Option Addr) (len2 cap2 : Nat) (O : Nat → OpA) (A2 : OpsAt w a2 len2 O) (hh : a0 < 1 ∨ 30 < a0) :
    Calls Try.prog 5 #[.int .i64 a0, .slice a2 len2 cap2] w fun e w' => e = .returned (.bool true) ∧ Below w.heap.size w w' := by
  have hc : (a0 < 1) ∨ (1 ≤ a0 ∧ 30 < a0) := by omega
  clear hh A2
  rcases hc with h1 | ⟨h1, h2⟩
  all_goals
    go_enter Try.func5, Try.ntmps5
    go_wp2_with fail
    refine (first_any _).mono ?_
    rintro e w1 ⟨rfl, k1⟩
    go_wp2_with fail
    refine (first_any _).mono ?_
    rintro e w3 ⟨rfl, k3⟩
    go_wp2
    go_ret
    exact ⟨rfl, (k1.then k3).below⟩

theorem start_both {w w2 w3 w4 : World} {r p s q n : Nat} (K2 : Chg no w w2) (s3 : Rc w3 r p (fun k => w2.heap.size ≤ k ∧ k < w3.heap.size) (Mod.new n 4) []) (k3 : Chg no w2 w3) (r4 : Rc w4 s q (fun k => w3.heap.size ≤ k ∧ k < w4.heap.size) (Mod.new n 4) []) (k4 : Chg no w3 w4) :
    DD1 w r p s q n 0 w4 := by
  have z2 := K2.size
  have z3 := k3.size
  have hn : ∀ (wr : World) (r p : Nat) (F : Nat → Prop), Rc wr r p F (Mod.new n 4) [] → R1 w r p n 4 0 F (Mod.new n 4) [] wr := by
    intro wr r p F h
    refine ⟨h, Nat.le_refl _, Nat.le_refl _, rfl, rfl, rfl, by simp [Mod.new], rfl, ?_, fun i x hx => by simp at hx⟩
    simp [Mod.new, Mod.now, md.redo, cur]
  exact ⟨_, _, _, _, _, hn _ _ _ _ (s3.same k4), hn _ _ _ _ r4, fun j h1 h2 => by omega, fun j hj => by omega, fun j hj => by omega, (K2.then k3).then k4⟩

set_option maxRecDepth 100000 in
set_option maxHeartbeats 16000000 in
theorem late (w : World) (n : Nat) (a2 : Option Addr) (len2 cap2 : Nat) (O : Nat → OpA) (A2 : OpsAt w a2 len2 O) (h1 : 1 ≤ n) (h2 : n ≤ 30) :
    Calls Try.prog 5 #[.int .i64 n, .slice a2 len2 cap2] w fun e w' => e = .returned (.bool true) ∧ Below w.heap.size w w' := by
  have i1 : (1 : Int) ≤ n := by omega
  have i2 : (n : Int) ≤ 30 := by omega
  have FW : ∀ w', Chg no w w' → Calls Try.prog 9 #[.slice a2 len2 cap2] w' (FewRes len2 O w') := fun w' c => few_any (ops_later A2 c) cap2
  have HO : Hid (OpsAt w a2 len2 O) := A2
  clear A2
  go_enter Try.func5, Try.ntmps5
  go_wp2_with fail
  refine (first_any _).mono ?_
  rintro e w1 ⟨rfl, k1⟩
  go_wp2_with fail
  refine (FW _ k1).mono ?_
  rintro e w2 ⟨b2, rfl, hb2, k2⟩
  rcases b2 with _ | _
  · clear hb2
    go_wp2_with fail
    refine (first_any _).mono ?_
    rintro e w3 ⟨rfl, k3⟩
    go_wp2
    go_ret
    exact ⟨rfl, ((k1.then k2).then k3).below⟩
  have HF : Hid (FewIs len2 O) := hb2 rfl
  have K2 := k1.then k2
  clear hb2 FW k1 k2
  go_wp2_with fail
  refine (made_in n 4 (by omega) (by omega) (by omega) (by omega)).mono ?_
  rintro e w3 ⟨r, p, rfl, s3, k3⟩
  go_wp2_with fail
  refine (made_in n 4 (by omega) (by omega) (by omega) (by omega)).mono ?_
  rintro e w4 ⟨s, q, rfl, r4, k4⟩
  have D4 : DD1 w r p s q n 0 w4 := start_both K2 s3 k3 r4 k4
  clear s3 r4 k3 k4 K2
  go_upto_block 0 with fail
  go_cut [] from 7 to 73 (fun wc => DD1 w r p s q n len2 wc)
  case first =>
    go_wp2_with fail
    go_loopw [7] (fun i wr => ∃ j : Nat, j ≤ len2 ∧ i = .int .i64 (j : Int) ∧ DD1 w r p s q n j wr) (fun i _ => len2 - (intOf i).toNat)
    case atStart => exact ⟨0, by omega, rfl, D4⟩
    case round =>
      clear D4
      obtain ⟨j, hj, rfl, F, G, m, m', T, hD⟩ := hrel
      by_cases hjn : j < len2
      · have hji : (j : Int) < len2 := by omega
        have hjb : j ≤ 200 := by have := HF.out.1; omega
        obtain ⟨x, ab, cb, ak, ck, rfl, hb, hk', e0, e1, e2, e3, l2, l3⟩ := HO.out.at hD.chg j hjn
        obtain ⟨o, ho⟩ : ∃ o, O j = o := ⟨_, rfl⟩
        rw [ho] at e0 e1 e2 l2
        obtain ⟨kind, A, bv, zs, kv, bs⟩ := o
        simp only at e0 e1 e2 l2
        clear hb hk' ho e3 l3
        have hk1 : j ≤ 1000 := by omega
        have HR := aread hD hk1 A
        have HW := awrite (hD.same (Chg.refl no _).drew) hk1 A ab cb zs (l2.chg (Chg.refl no _).drew (fun _ _ h => h))
        have HY := async' hD hk1
        clear hD l2
        by_cases hk0 : kind = 0
        · subst hk0
          clear HW HY
          go_wp2_with fail
          refine HR.mono ?_
          rintro e w5 ⟨x5, l5, c5, y5, rfl, hP⟩
          go_wp2
          go_roundw
          case rel => exact ⟨j + 1, by omega, by go_num, hP⟩
          case measure => simp [intOf]; omega
        by_cases hk1' : kind = 1
        · subst hk1'
          clear HR HY
          go_wp2_with fail
          obtain ⟨pG, hpG⟩ : ∃ pG : World → Prop, ∀ w', pG w' ↔ (w'.cell? ⟨(x.add (j * 4)).block, (x.add (j * 4)).off + 1, none⟩ = some (.int .i64 A) ∧ w'.cell? ⟨(x.add (j * 4)).block, (x.add (j * 4)).off + 2, none⟩ = some (.slice ab zs.length cb)) := ⟨_, fun _ => Iff.rfl⟩
          have hx1 : ∀ x' : far.InC pG, x'.w.cell? ⟨(x.add (j * 4)).block, (x.add (j * 4)).off + 1, none⟩ = some (.int .i64 A) := fun x => ((hpG _).1 x.h).1
          have hx2 : ∀ x' : far.InC pG, x'.w.cell? ⟨(x.add (j * 4)).block, (x.add (j * 4)).off + 2, none⟩ = some (.slice ab zs.length cb) := fun x => ((hpG _).1 x.h).2
          have iG : Nonempty (far.InC pG) := ⟨⟨wr, (hpG _).2 ⟨e1, e2⟩⟩⟩
          have HYG : Hid (pG wr.drew) := (hpG _).2 ⟨e1, e2⟩
          clear hpG
          refine far.region_farM (fun κ w' => κ ≤ 0 → pG w') [11] (by kernel_rfl) (by kernel_rfl) (fun _ => HYG.out) ?_
          intro L e1' e2' e3'
          refine far.farO_stretch pG 11 0 0 e1' e2' e3' (by kernel_rfl) (by kernel_rfl) (fun κ w' hk1 hk2 hC => hC (by omega)) ?_
          simp only [List.take_succ_cons, List.take_zero, List.drop_succ_cons, List.drop_zero, Nat.reduceAdd]
          repeat (go_big_quiet_step (fail))
          refine wpQuiet_nil ?_
          refine far.farO_enter e1' e2' 0 rfl rfl 15 #[.pointer (some ⟨r, 0, none⟩), .int .i64 A, .slice ab zs.length cb] (by kernel_rfl) (by kernel_rfl) ?_
          refine HW.mono ?_
          rintro e w5 ⟨y5, rfl, hP⟩
          refine ⟨_, rfl, fun h => by omega, ?_⟩
          simp only [Act.put, List.setIfInBounds_toArray, List.set_cons_succ, List.set_cons_zero, Nat.reduceAdd]
          refine far.farO_nil ?_
          clear hx1 hx2 HW
          go_wp2
          go_roundw
          case rel => exact ⟨j + 1, by omega, by go_num, hP⟩
          case measure => simp [intOf]; omega
        clear HR HW
        go_wp2_with fail
        refine HY.mono ?_
        rintro e w5 ⟨y5, rfl, hP⟩
        go_wp2
        go_roundw
        case rel => exact ⟨j + 1, by omega, by go_num, hP⟩
        case measure => simp [intOf]; omega
      · obtain rfl : j = len2 := by omega
        have hji : (j : Int) ≤ (j : Int) := by omega
        have HD : Hid (DD1 w r p s q n j wr) := ⟨_, _, _, _, _, hD⟩
        clear hD
        go_wp2
        go_meet
        case rel => exact HD.out
  case rest =>
    clear D4 HO
    obtain ⟨F, G, m, m', T, hD⟩ := hcut
    have hl2 : len2 ≤ 200 := HF.out.1
    have hTl := hD.a.le
    have hzs := valid_zs hD.a.ok (by decide)
    go_wp2_with fail
    refine (trace_any hD.a.rc (by omega) hzs).mono ?_
    rintro e w5 ⟨g, rfl, hg, L5⟩
    obtain ⟨T', t5, tt5, k5⟩ := L5.tra rfl hg
    obtain ⟨N, hN⟩ : ∃ N, T.length = N := ⟨_, rfl⟩
    rw [hN] at t5
    have HN : Hid (T.length = N ∧ T'.length = N) := ⟨hN, by rw [tell_len tt5]; exact hN⟩
    have hNb : N ≤ 200 := by omega
    have D5 : DD2 w r p s q n len2 0 F (fun j => wc.heap.size ≤ j ∧ j < w5.heap.size) m T T' (.slice (some ⟨g, 0, none⟩) N N) w5 := ⟨G, m', [], hD.same k5, Tra.old t5, tt5, by simp, fun j hj => ⟨fun e => by have := hD.b.rc.lt j e; omega, hj.2⟩⟩
    simp only [hN]
    obtain ⟨J, hJ⟩ : ∃ J : Nat → Prop, J = (fun j => wc.heap.size ≤ j ∧ j < w5.heap.size) := ⟨_, rfl⟩
    rw [← hJ] at D5
    clear hD L5 t5 k5 hJ hN hzs hTl
    go_upto_block 3 with fail
    go_cut [] from 9 to 147 (fun wc => DD2 w r p s q n len2 N F J m T T' (.slice (some ⟨g, 0, none⟩) N N) wc)
    case first =>
      go_wp2_with fail
      go_loopw [9] (fun i wr => ∃ j : Nat, j ≤ N ∧ i = .int .i64 (j : Int) ∧ DD2 w r p s q n len2 j F J m T T' (.slice (some ⟨g, 0, none⟩) N N) wr) (fun i _ => N - (intOf i).toNat)
      case atStart => exact ⟨0, by omega, rfl, D5⟩
      case round =>
        clear D5
        obtain ⟨j, hj, rfl, G, m', Ts, hD⟩ := hrel
        by_cases hjn : j < N
        · have hji : (j : Int) < N := by omega
          have hj1 : j ≤ 1000 := by omega
          have hjT : j < T'.length := by rw [HN.out.2]; exact hjn
          obtain ⟨x, ab, cb, hx, hJx, hv, e0, e1, e2, l1⟩ := hD.t.at j hjT
          cases hx
          have HK := hD.kinds hjT
          have HR := bread hD hj1 hjT
          have HW := bwrite (hD.same (Chg.refl no _).drew) hj1 hjT
          have HY := bsync hD hj1 hjT
          have HL1 : Hid (Lies J wr (.slice ab (T'.getD j dR).zs.length cb) ((T'.getD j dR).zs.map (Value.int .u8))) := l1
          have HT : Hid (∀ w1, DD2 w r p s q n len2 (j + 1) F J m T T' (.slice (some ⟨g, 0, none⟩) N N) w1 → w1.cell? ⟨g, j * 3, none⟩ = some (.int .i64 (T'.getD j dR).kind) ∧ w1.cell? ⟨g, j * 3 + 1, none⟩ = some (.int .i64 (T'.getD j dR).addr) ∧ w1.cell? ⟨g, j * 3 + 2, none⟩ = some (.slice ab (T'.getD j dR).zs.length cb) ∧ Lies J w1 (.slice ab (T'.getD j dR).zs.length cb) ((T'.getD j dR).zs.map (Value.int .u8))) := by
            intro w1 h1
            obtain ⟨G1, m1, T1, h1⟩ := h1
            obtain ⟨x', ab', cb', hx', _, hv', f0, f1, f2, l2⟩ := h1.t.at j hjT
            cases hx'
            rw [hv] at hv'
            cases hv'
            simp only [Addr.add_lit, Nat.zero_add] at f0 f1 f2
            exact ⟨f0, f1, f2, l2⟩
          simp only [Addr.add_lit, Nat.zero_add] at e0 e1 e2
          obtain ⟨⟨k1, a1, v1, z1⟩, hX⟩ : ∃ X, T'.getD j dR = X := ⟨_, rfl⟩
          rw [hX] at e0 e1 e2 HK HR HW HY HL1 HT
          simp only at e0 e1 e2 HK HR HW HY
          have HL2 : Hid (Lies J wr (.slice ab z1.length cb) (z1.map (Value.int .u8))) := HL1.out
          have HT2 : Hid (∀ w1, DD2 w r p s q n len2 (j + 1) F J m T T' (.slice (some ⟨g, 0, none⟩) N N) w1 → w1.cell? ⟨g, j * 3, none⟩ = some (.int .i64 k1) ∧ w1.cell? ⟨g, j * 3 + 1, none⟩ = some (.int .i64 a1) ∧ w1.cell? ⟨g, j * 3 + 2, none⟩ = some (.slice ab z1.length cb) ∧ Lies J w1 (.slice ab z1.length cb) (z1.map (Value.int .u8))) := HT.out
          clear hD hv l1 hX HL1 HT hJx hjT
          rcases HK with rfl | rfl | rfl
          · have HR' := HR rfl
            clear HR HW HY
            go_wp2_with fail
            refine HR'.mono ?_
            rintro e w6 ⟨x6, l6, c6, rfl, hDD, K6, L6⟩
            obtain ⟨f0, f1, f2, l2⟩ := HT2.out _ hDD
            have B6 := bytes_same L6 l2
            clear L6 l2 HR'
            go_wp2_with fail
            refine B6.mono ?_
            rintro e w7 ⟨rfl, rfl⟩
            go_wp2
            go_roundw
            case rel => exact ⟨j + 1, by omega, by go_num, hDD⟩
            case measure => simp [intOf]; omega
          · have HW' := HW rfl ab cb (HL2.out.chg (Chg.refl no _).drew (fun _ _ h => h))
            clear HR HW HY
            go_wp2_with fail
            obtain ⟨pG, hpG⟩ : ∃ pG : World → Prop, ∀ w', pG w' ↔ (w'.cell? ⟨g, j * 3 + 1, none⟩ = some (.int .i64 a1) ∧ w'.cell? ⟨g, j * 3 + 2, none⟩ = some (.slice ab z1.length cb)) := ⟨_, fun _ => Iff.rfl⟩
            have hx1 : ∀ x' : far.InC pG, x'.w.cell? ⟨g, j * 3 + 1, none⟩ = some (.int .i64 a1) := fun x => ((hpG _).1 x.h).1
            have hx2 : ∀ x' : far.InC pG, x'.w.cell? ⟨g, j * 3 + 2, none⟩ = some (.slice ab z1.length cb) := fun x => ((hpG _).1 x.h).2
            have iG : Nonempty (far.InC pG) := ⟨⟨wr, (hpG _).2 ⟨e1, e2⟩⟩⟩
            have HYG : Hid (pG wr.drew) := (hpG _).2 ⟨e1, e2⟩
            have HDR : Hid (∀ w6, DD2 w r p s q n len2 (j + 1) F J m T T' (.slice (some ⟨g, 0, none⟩) N N) w6 → pG w6) := fun w6 hd => by
              obtain ⟨f0, f1, f2, l2⟩ := HT2.out _ hd
              exact (hpG _).2 ⟨f1, f2⟩
            clear hpG
            refine far.region_farM (fun κ w' => pG w') [11] (by kernel_rfl) (by kernel_rfl) HYG.out ?_
            intro L e1' e2' e3'
            refine far.farO_stretch pG 11 0 0 e1' e2' e3' (by kernel_rfl) (by kernel_rfl) (fun κ w' hk1 hk2 hC => hC) ?_
            simp only [List.take_succ_cons, List.take_zero, List.drop_succ_cons, List.drop_zero, Nat.reduceAdd]
            repeat (go_big_quiet_step (fail))
            refine wpQuiet_nil ?_
            refine far.farO_enter e1' e2' 0 rfl rfl 15 #[.pointer (some ⟨s, 0, none⟩), .int .i64 a1, .slice ab z1.length cb] (by kernel_rfl) (by kernel_rfl) ?_
            refine HW'.mono ?_
            rintro e w5 ⟨rfl, hP⟩
            refine ⟨_, rfl, HDR.out _ hP, ?_⟩
            simp only [Act.put, List.setIfInBounds_toArray, List.set_cons_succ, List.set_cons_zero, Nat.reduceAdd]
            refine far.farO_stretch pG 1 0 1 e1' e2' e3' (by kernel_rfl) (by kernel_rfl) (fun κ w' hk1 hk2 hC => hC) ?_
            simp only [List.take_succ_cons, List.take_zero, List.drop_succ_cons, List.drop_zero, Nat.reduceAdd]
            repeat (go_big_quiet_step (fail))
            refine wpQuiet_nil ?_
            refine far.farO_nil ?_
            clear hx1 hx2 HW'
            go_wp2
            go_roundw
            case rel => exact ⟨j + 1, by omega, by go_num, hP⟩
            case measure => simp [intOf]; omega
          · obtain ⟨HY', ha, hzl⟩ := HY rfl
            rw [hzl] at e2
            rw [ha] at e1
            have HT3 : Hid (∀ w1, DD2 w r p s q n len2 (j + 1) F J m T T' (.slice (some ⟨g, 0, none⟩) N N) w1 → w1.cell? ⟨g, j * 3 + 1, none⟩ = some (.int .i64 0) ∧ w1.cell? ⟨g, j * 3 + 2, none⟩ = some (.slice ab 0 cb)) := fun w1 h1 => by
              have := HT2.out w1 h1
              rw [ha, hzl] at this
              exact ⟨this.2.1, this.2.2.1⟩
            clear HR HW HY HT2 ha hzl HL2
            go_wp2_with fail
            refine HY'.mono ?_
            rintro e w6 ⟨rfl, hDD⟩
            obtain ⟨f1, f2⟩ := HT3.out _ hDD
            clear HY'
            go_wp2
            go_roundw
            case rel => exact ⟨j + 1, by omega, by go_num, hDD⟩
            case measure => simp [intOf]; omega
        · obtain rfl : j = N := by omega
          have hji : (j : Int) ≤ (j : Int) := by omega
          have HD : Hid (DD2 w r p s q n len2 j F J m T T' (.slice (some ⟨g, 0, none⟩) j j) wr) := ⟨_, _, _, hD⟩
          clear hD
          go_wp2
          go_meet
          case rel => exact HD.out
    case rest =>
      clear D5
      obtain ⟨G, m', Ts, hD⟩ := hcut
      have hTs : Ts.map Rec.tell = T'.map Rec.tell := by rw [hD.ts, List.take_of_length_le (by rw [HN.out.2]; exact Nat.le_refl _)]
      have hTsl : Ts.length = N := by rw [tell_len hTs]; exact HN.out.2
      have hzs := valid_zs hD.d.b.ok (by decide)
      have HTR : Hid (∀ w', D2 w r p s q n len2 N F G J m m' T Ts T' (.slice (some ⟨g, 0, none⟩) N N) w' → Calls Try.prog 33 #[.pointer (some ⟨s, 0, none⟩)] w' fun e w'' => ∃ gu, e = .returned (.slice (some ⟨gu, 0, none⟩) N N) ∧ w'.heap.size ≤ gu ∧ (∃ U, Tra (fun j => w'.heap.size ≤ j) w'' (.slice (some ⟨gu, 0, none⟩) N N) U ∧ U.map Rec.tell = T'.map Rec.tell) ∧ (∃ xs : List Value, w''.heap[gu]? = some (.cells xs.toArray 61 (0, 0)) ∧ xs.length = N * 3) ∧ Chg no w' w'') := by
        intro w' h'
        refine (trace_any h'.d.b.rc (by omega) hzs).mono ?_
        rintro e w'' ⟨gu, rfl, hgu, L⟩
        obtain ⟨U, tu, ttu, ku⟩ := L.tra rfl hgu
        obtain ⟨xs, T2, gx, hxl, _⟩ := L
        rw [hTsl] at tu hxl ⊢
        exact ⟨gu, rfl, hgu, ⟨U, tu, ttu.trans hTs⟩, ⟨xs, gx, hxl⟩, ku⟩
      have HEQ : Hid (∀ (w' : World) (K : Nat → Prop) (gu : Nat) (U : List Rec), Tra K w' (.slice (some ⟨gu, 0, none⟩) N N) U → U.map Rec.tell = T'.map Rec.tell → ∀ (m1 : Mod), D2 w r p s q n len2 N F G J m m' T Ts T' (.slice (some ⟨g, 0, none⟩) N N) w' →
          (Calls Try.prog 36 #[.slice (some ⟨g, 0, none⟩) N N, .slice (some ⟨gu, 0, none⟩) N N] w' fun e w'' => e = .returned (.bool true) ∧ Chg no w' w'') ∧ (Calls Try.prog 36 #[.slice (some ⟨gu, 0, none⟩) N N, .slice (some ⟨g, 0, none⟩) N N] w' fun e w'' => e = .returned (.bool true) ∧ Chg no w' w'')) := by
        intro w' K gu U tu ttu _ h'
        have hk := keys_of_tell ttu
        have E1 := equal_ops h'.t tu (by omega)
        have E2 := equal_ops tu h'.t (by omega)
        rw [hk] at E1 E2
        simp only [decide_true] at E1 E2
        exact ⟨E1, E2⟩
      have HTR0 := HTR.out _ hD
      clear hTs hTsl hzs
      go_wp2_with fail
      refine HTR0.mono ?_
      rintro e w6 ⟨gu, rfl, hgu, ⟨U, tu, ttu⟩, ⟨xs, gx, hxl⟩, k6⟩
      have hD6 := hD.same k6
      have E6 := (HEQ.out _ _ _ _ tu ttu m hD6).1
      have nF : ¬ F gu := fun e => by have := hD.d.a.rc.lt gu e; omega
      have nG : ¬ G gu := fun e => by have := hD.d.b.rc.lt gu e; omega
      have nJ : ¬ J gu := fun e => by have := (hD.jg gu e).2; omega
      have nw : w.heap.size ≤ gu := Nat.le_trans hD.d.chg.size hgu
      clear HTR0 hD tu ttu
      go_wp2_with fail
      refine E6.mono ?_
      rintro e w7 ⟨rfl, k7⟩
      have gx7 := k7.heap gx id
      have hD7 : Hid (D2 w r p s q n len2 N F G J m m' T Ts T' (.slice (some ⟨g, 0, none⟩) N N) w7) := hD6.same k7
      clear E6 hD6 gx
      go_upto_block 6 with fail
      go_cut [] from 13 to 163 (fun wc => Chg (fun j => j = gu) w7 wc)
      case first =>
        go_wp2_with fail
        go_loopw [13] (fun i wr => ∃ j : Nat, j ≤ N ∧ i = .int .i64 (j : Int) ∧ (∃ xs : List Value, wr.heap[gu]? = some (.cells xs.toArray 61 (0, 0)) ∧ xs.length = N * 3) ∧ Chg (fun j => j = gu) w7 wr) (fun i _ => N - (intOf i).toNat)
        case atStart => exact ⟨0, by omega, rfl, ⟨xs, gx7, hxl⟩, Chg.refl _ _⟩
        case round =>
          clear gx7 hxl
          obtain ⟨j, hj, rfl, ⟨ys, gy, hyl⟩, C⟩ := hrel
          by_cases hjn : j < N
          · have hji : (j : Int) < N := by omega
            obtain ⟨u0, hu0⟩ : ∃ u0, ys[j * 3]? = some u0 := ⟨_, List.getElem?_eq_getElem (by omega)⟩
            obtain ⟨q0, q1⟩ := row_cell gy (j * 3) u0 hu0
            have HG : Hid (∃ xs : List Value, (wr.setCell ⟨gu, j * 3, none⟩ (.int .i64 9)).heap[gu]? = some (.cells xs.toArray 61 (0, 0)) ∧ xs.length = N * 3) := ⟨_, row_set gy (j * 3) (.int .i64 9), by simpa using hyl⟩
            have HC : Hid (Chg (fun j => j = gu) w7 (wr.setCell ⟨gu, j * 3, none⟩ (.int .i64 9))) := C.setCell _ _ (.inl rfl)
            clear gy hyl C hu0
            go_wp2
            go_roundw
            case rel => exact ⟨j + 1, by omega, by go_num, HG.out, HC.out⟩
            case measure => simp [intOf]; omega
          · obtain rfl : j = N := by omega
            have hji : (j : Int) ≤ (j : Int) := by omega
            clear gy hyl
            go_wp2
            go_meet
            case rel => exact C
      case rest =>
        clear gx7 hxl
        have hD8 := hD7.out.aside hcut nF nG nJ nw
        clear hcut hD7
        go_wp2_with fail
        refine (first_any _).mono ?_
        rintro e w9 ⟨rfl, k9⟩
        have hD9 := hD8.same k9
        have HTR9 := HTR.out _ hD9
        clear hD8
        go_wp2_with fail
        refine HTR9.mono ?_
        rintro e wa ⟨ga, rfl, hga, ⟨Ua, ta, tta⟩, _, ka⟩
        have hDa := hD9.same ka
        have Ea := (HEQ.out _ _ _ _ ta tta m hDa).2
        clear HTR9 hD9 ta tta
        go_wp2_with fail
        refine Ea.mono ?_
        rintro e wb ⟨rfl, kb⟩
        have hDb := hDa.same kb
        have hCT := count_ops (ks := []) (b := none) (n' := 0) (c' := 0) hDb.t ⟨rfl, fun i w' c hi => by simp at hi⟩ (by omega) (by decide)
        rw [hits_none, HN.out.2] at hCT
        clear Ea hDa
        go_wp2_with fail
        refine hCT.mono ?_
        rintro e wd ⟨rfl, kd⟩
        have hDd := hDb.same kd
        have hMK := mark_any hDd.d.a.rc
        rw [HN.out.1] at hMK
        have hCd := hDd.d.chg
        clear hCT hDb hDd
        go_wp2_with fail
        refine hMK.mono ?_
        rintro e we ⟨rfl, rfl⟩
        go_wp2
        go_ret
        exact ⟨rfl, hCd.below⟩

theorem walk (w : World) (a0 : Int) (a1 : Option Addr) (len1 cap1 : Nat) (O : Nat → OpA) (w0 : (Lit.int .i64 a0).wf = true) (A1 : OpsAt w a1 len1 O) (c1 : len1 ≤ cap1) :
    Calls Try.prog 5 #[.int .i64 a0, .slice a1 len1 cap1] w fun e w' => e = .returned (.bool true) ∧ Below w.heap.size w w' := by
  by_cases hh : a0 < 1 ∨ 30 < a0
  · exact early w a0 a1 len1 cap1 O A1 hh
  · obtain ⟨n, rfl⟩ := Int.eq_ofNat_of_zero_le (show 0 ≤ a0 by omega)
    exact late w n a1 len1 cap1 O A1 (by omega) (by omega)

theorem own : ownKnob Try.prog.godebug = none := by kernel_rfl
theorem laidOut : laidOutB Try.prog = true := by kernel_rfl

set_option maxRecDepth 100000 in
theorem lifted (os : Os) (started : os.Started) (H : Type) (enc : TypeId × Value → H) :
    ReturnsInHanded {} Try.checked os 5 .any (Rows.traceAgainSpec.pre6 enc Try.prog Try.f5 Rows.traceAgainRow.domain false) (Rows.traceAgainSpec.post enc Try.prog Try.f5 false true false false) := by
  refine returnsInHanded_of_change (C := Try.checked) own started (by kernel_rfl) Try.func5
    (ChangeSpec.witness6 (enc := enc) (C := Try.checked) false ⟨#[], #[.int .i64 0, .slice none 0 0], []⟩ 8 (by kernel_rfl) (by kernel_rfl) (by kernel_rfl) (by kernel_rfl)) ?_
  intro W base args ds gs before hval0 hW hcnd _
  have hval : ∀ (j : Nat) t v, Try.f5.params[j]? = some t → args[j]? = some v → Value.okWide Try.prog W .any base t v := hval0
  have hW' := hW
  obtain ⟨p, q, hA0, hV, rfl, hfz, hnd⟩ := hW
  have hA : DataW.TrodAll enc Try.prog W 0 (fun _ => true) true Try.f5.params.toList args.toList ds p := hA0
  rw [Try.params5] at hA hval
  obtain ⟨v0, vs0, d0, ds0, p0, q0, hargs, rfl, rfl, h0, r0⟩ := trodAll_cons hA
  obtain ⟨v1, vs1, d1, ds1, p1, q1, rfl, rfl, rfl, h1, r1⟩ := trodAll_cons r0
  obtain ⟨rfl, rfl, rfl⟩ := trodAll_nil r1
  obtain rfl : args = #[v0, v1] := by cases args; simp_all
  obtain ⟨rfl, rfl⟩ := trodVars_none hV
  obtain ⟨a0, rfl, rfl, rfl, w0⟩ := open_int Try.underlying3 (hval 0 3 v0 rfl rfl) h0
  obtain ⟨a1, len1, cap1, rfl⟩ := okWide_slice Try.underlying22 (hval 1 22 v1 rfl rfl)
  have k1 := h1
  have lt1 : ∀ x ∈ p1, x.block < W.heap.size := by obtain ⟨m, hm⟩ := k1; exact DataW.trod_lt m _ _ _ hm
  have c1 : len1 ≤ cap1 := by obtain ⟨m, hm⟩ := k1; exact (open_cap Try.underlying22 hm).1
  obtain ⟨O1, w1⟩ := (by obtain ⟨fuel, hf⟩ := h1; exact open_ops hf : ∃ z : Nat → OpA, OpsAt W a1 len1 z)
  clear hA0 hval0
  refine (walk W a0 a1 len1 cap1 O1 w0 w1 c1).mono fun e W' ⟨he, bel⟩ => ?_
  subst he
  exact ⟨_, rfl, _, _, _, [], _, [], hW', trodAll_mk1 (shut_bool Try.underlying4 _), (trodAll_cons_mk (shut_int Try.underlying3 w0) (trodAll_cons_mk (Below.trod laidOut (by kernel_rfl) (of_decide_eq_true (by kernel_rfl)) k1 bel lt1) trodAll_mk0)), rfl, bel.frame _, fun h => by cases h⟩

theorem over : Rows.traceAgainRow.holds Try.pinned (OpenSpec.ofChange Rows.traceAgainSpec) :=
  OpenClaim.holds_of_wide 5 Try.f5 rfl rfl rfl rfl rfl rfl rfl ⟨rfl, rfl, rfl, rfl, rfl⟩ rfl rfl rfl rfl rfl (by kernel_rfl) Try.func5 (by kernel_rfl)
    (of_decide_eq_true (by kernel_rfl)) (by unfold Func.isWrapper; first | (rw [if_pos (by decide +kernel)]; kernel_rfl) | (rw [if_neg (by decide +kernel)]; exact ⟨rfl, rfl⟩))
    (fun os started H enc _ => lifted os started H enc)

theorem proved : Rows.TraceAgainSaid := over
end Go.Proofs.Yteehphmedmplkaa.traceAgain
namespace Go.Proofs.Yteehphmedmplkaa
theorem traceAgain_holds : Rows.TraceAgainSaid := traceAgain.proved
#print axioms traceAgain_holds
end Go.Proofs.Yteehphmedmplkaa
