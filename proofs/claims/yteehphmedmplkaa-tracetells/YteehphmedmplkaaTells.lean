/-
  Proved: for every two numbers n and size and every list of operations the law TraceTells returns true and leaves its arguments as they were; no condition.
-/
import Derived.Test.YteehphmedmplkaaPlayT
import Derived.Test.YteehphmedmplkaaCount
import Derived.Test.YteehphmedmplkaaFar
import Derived.Deep.CutBlock
import Derived.Below
namespace Go.Proofs.Yteehphmedmplkaa.traceTells
open Go.ChangeShapes Go.WideShapes Go.ChangeAt Go.RowKit Go.Proofs.Yteehphmedmplkaa.hp Go.Proofs.Yteehphmedmplkaa.md Go.Proofs.Yteehphmedmplkaa.st Go.Proofs.Yteehphmedmplkaa.pl
open Go.Proofs.Yteehphmedmplkaa.rt (Rt)
set_option linter.unusedVariables false

set_option maxRecDepth 100000 in
set_option maxHeartbeats 2000000 in
theorem early (w : World) (a0 a1 : Int) (a2 : Option Addr) (len2 cap2 : Nat) (O : Nat → OpA) (A2 : OpsAt w a2 len2 O) (hh : a0 < 1 ∨ 40 < a0 ∨ a1 < 1 ∨ 40 < a1) :
    Calls Try.prog 3 #[.int .i64 a0, .int .i64 a1, .slice a2 len2 cap2] w fun e w' => e = .returned (.bool true) ∧ Below w.heap.size w w' := by
  have FW : ∀ w', Chg no w w' → Calls Try.prog 9 #[.slice a2 len2 cap2] w' (FewRes len2 O w') := fun w' c => few_any (ops_later A2 c) cap2
  have hc : (40 < a0) ∨ (a0 ≤ 40 ∧ 40 < a1) ∨ (a0 ≤ 40 ∧ a1 ≤ 40 ∧ (a0 < 1 ∨ a1 < 1)) := by omega
  clear hh A2
  rcases hc with h1 | ⟨h1, h2⟩ | ⟨h1, h2, h3⟩
  · go_enter Try.func3, Try.ntmps3
    go_wp2_with fail
    refine (first_any _).mono ?_
    rintro e w1 ⟨rfl, k1⟩
    go_wp2_with fail
    refine (first_any _).mono ?_
    rintro e w3 ⟨rfl, k3⟩
    go_wp2
    go_ret
    exact ⟨rfl, (k1.then k3).below⟩
  · go_enter Try.func3, Try.ntmps3
    go_wp2_with fail
    refine (first_any _).mono ?_
    rintro e w1 ⟨rfl, k1⟩
    go_wp2_with fail
    refine (first_any _).mono ?_
    rintro e w3 ⟨rfl, k3⟩
    go_wp2
    go_ret
    exact ⟨rfl, (k1.then k3).below⟩
  · have H3 : Hid (a0 < 1 ∨ 65536 < a0 ∨ a1 < 1 ∨ 4096 < a1) := by show a0 < 1 ∨ _; omega
    clear h3
    go_enter Try.func3, Try.ntmps3
    go_wp2_with fail
    refine (first_any _).mono ?_
    rintro e w1 ⟨rfl, k1⟩
    go_wp2_with fail
    refine (FW _ k1).mono ?_
    rintro e w2 ⟨b2, rfl, hb2, k2⟩
    clear hb2
    rcases b2 with _ | _
    · go_wp2_with fail
      refine (first_any _).mono ?_
      rintro e w3 ⟨rfl, k3⟩
      go_wp2
      go_ret
      exact ⟨rfl, ((k1.then k2).then k3).below⟩
    · go_wp2_with fail
      refine (made_out a0 a1 H3.out).mono ?_
      rintro e w3 ⟨rfl, rfl⟩
      go_wp2_with fail
      refine (rt.rnew_out a0 a1 H3.out).mono ?_
      rintro e w4 ⟨rfl, rfl⟩
      go_wp2_with fail
      refine (first_any _).mono ?_
      rintro e w5 ⟨rfl, k5⟩
      go_wp2
      go_ret
      exact ⟨rfl, ((k1.then k2).then k5).below⟩

theorem start_both {w w2 w3 w4 : World} {r p q n sz : Nat} (K2 : Chg no w w2) (s3 : Rc w3 r p (fun k => w2.heap.size ≤ k ∧ k < w3.heap.size) (Mod.new n sz) []) (k3 : Chg no w2 w3) (r4 : rt.Rt w4 q (fun k => w3.heap.size ≤ k ∧ k < w4.heap.size) (Mod.new n sz) []) (k4 : Chg no w3 w4) :
    DD w r p q n sz 0 w4 := by
  have z2 := K2.size
  have z3 := k3.size
  exact ⟨_, _, _, _, _, _, s3.same k4, r4, ⟨rfl, rfl, rfl, rfl, rfl, rfl, rfl⟩, rfl, fun j h1 h2 => by omega, fun j hj => by omega, fun j hj => by omega, by simp [Mod.new], rfl, Nat.le_refl _, Nat.le_refl _, by simp [Mod.new], by simp, (K2.then k3).then k4⟩

set_option maxRecDepth 100000 in
set_option maxHeartbeats 16000000 in
theorem late (w : World) (n sz : Nat) (a2 : Option Addr) (len2 cap2 : Nat) (O : Nat → OpA) (A2 : OpsAt w a2 len2 O) (h1 : 1 ≤ n) (h2 : n ≤ 40) (h3 : 1 ≤ sz) (h4 : sz ≤ 40) :
    Calls Try.prog 3 #[.int .i64 n, .int .i64 sz, .slice a2 len2 cap2] w fun e w' => e = .returned (.bool true) ∧ Below w.heap.size w w' := by
  have i1 : (1 : Int) ≤ n := by omega
  have i2 : (n : Int) ≤ 40 := by omega
  have i3 : (1 : Int) ≤ sz := by omega
  have i4 : (sz : Int) ≤ 40 := by omega
  have FW : ∀ w', Chg no w w' → Calls Try.prog 9 #[.slice a2 len2 cap2] w' (FewRes len2 O w') := fun w' c => few_any (ops_later A2 c) cap2
  have HO : Hid (OpsAt w a2 len2 O) := A2
  clear A2
  go_enter Try.func3, Try.ntmps3
  go_wp2_with fail
  refine (first_any _).mono ?_
  rintro e w1 ⟨rfl, k1⟩
  go_wp2_with fail
  refine (FW _ k1).mono ?_
  rintro e w2 ⟨b2, rfl, hb2, k2⟩
  rcases b2 with _ | _
  · clear hb2
    go_wp2_with fail
    refine (first_any _).mono ?_
    rintro e w3 ⟨rfl, k3⟩
    go_wp2
    go_ret
    exact ⟨rfl, ((k1.then k2).then k3).below⟩
  have HF : Hid (FewIs len2 O) := hb2 rfl
  have K2 := k1.then k2
  clear hb2 FW k1 k2
  go_wp2_with fail
  refine (made_in n sz (by omega) (by omega) (by omega) (by omega)).mono ?_
  rintro e w3 ⟨r, p, rfl, s3, k3⟩
  go_wp2_with fail
  refine (rt.rnew_in n sz (by omega) (by omega) (by omega) (by omega)).mono ?_
  rintro e w4 ⟨q, rfl, r4, k4⟩
  have D4 : DD w r p q n sz 0 w4 := start_both K2 s3 k3 r4 k4
  clear s3 r4 k3 k4 K2
  go_wp2_with fail
  go_loopw [10] (fun i wr => ∃ j : Nat, j ≤ len2 ∧ i = .int .i64 (j : Int) ∧ DD w r p q n sz j wr) (fun i _ => len2 - (intOf i).toNat)
  case atStart => exact ⟨0, by omega, rfl, D4⟩
  case round =>
    clear D4
    obtain ⟨j, hj, rfl, F, G, m, m', T, T', hD⟩ := hrel
    by_cases hjn : j < len2
    · have hji : (j : Int) < len2 := by omega
      have hjb : j ≤ 200 := by have := HF.out.1; omega
      obtain ⟨x, ab, cb, ak, ck, rfl, hb, hk', e0, e1, e2, e3, l2, l3⟩ := HO.out.at hD.chg j hjn
      have hbl : (O j).bs.length ≤ 20000 := HF.out.2 j hjn
      have hwf : (Lit.int .i64 (O j).addr).wf = true := by obtain ⟨x', hx', _, _, _, _, _, _, _, hw⟩ := HO.out j hjn; exact hw
      obtain ⟨o, ho⟩ : ∃ o, O j = o := ⟨_, rfl⟩
      rw [ho] at e0 e1 e2 e3 l2 l3 hbl hwf
      obtain ⟨kind, A, bv, zs, kv, bs⟩ := o
      simp only at e0 e1 e2 e3 l2 l3 hbl hwf
      clear hb hk' ho
      go_upto_block 2 with fail
      have hDX := hD.same ((Chg.refl no wr).alloc (.cells #[.int .i64 kind, .int .i64 A, .slice ab zs.length cb, .slice ak bs.length ck] 34))
      have hg : ¬ F wr.heap.size := fun e => by have := hD.rc.lt _ e; omega
      have hG : (wr.alloc (.cells #[.int .i64 kind, .int .i64 A, .slice ab zs.length cb, .slice ak bs.length ck] 34)).heap[wr.heap.size]? = some (.cells #[.int .i64 kind, .int .i64 A, .slice ab zs.length cb, .slice ak bs.length ck] 34 (0, 0)) := heap_alloc_new _ _
      have y0 := hDX.rc.ptr
      have y1 := (row_cell (xs := [_, _, _, _]) hG 1 _ rfl).1
      have y2 := (row_cell (xs := [_, _, _, _]) hG 2 _ rfl).1
      have y3 := (row_cell (xs := [_, _, _, _]) hG 3 _ rfl).1
      have hA : A ≤ 9223372036854775807 := (bounds_i64 hwf).2
      have hk1 : j ≤ 1000 := by omega
      have l2X := l2.chg ((Chg.refl no wr).alloc (.cells #[.int .i64 kind, .int .i64 A, .slice ab zs.length cb, .slice ak bs.length ck] 34)) (fun _ _ h => h)
      have l3X := l3.chg ((Chg.refl no wr).alloc (.cells #[.int .i64 kind, .int .i64 A, .slice ab zs.length cb, .slice ak bs.length ck] 34)) (fun _ _ h => h)
      have HR := dread hDX hg hk1 A
      have hDW := hDX.same (Chg.refl no _).drew
      have HW := dwrite hDW hg hk1 A ab cb zs (l2X.chg (Chg.refl no _).drew (fun _ _ h => h))
      have HY := dsync hDX hk1
      have HM := darm hDW hg A hA (.slice ak bs.length ck) bs (l3X.chg (Chg.refl no _).drew (fun _ _ h => h)) hbl
      have HC := dcrash hDW hg hk1 ak ck bs (l3X.chg (Chg.refl no _).drew (fun _ _ h => h)) hbl
      have HB := dreboot hDX
      have HDX : Hid (DD w r p q n sz (j + 1) (wr.alloc (.cells #[.int .i64 kind, .int .i64 A, .slice ab zs.length cb, .slice ak bs.length ck] 34))) := ⟨_, _, _, _, _, _, hDX.more (by omega)⟩
      have hzD : Hid (∀ w2, DD w r p q n sz j w2 → DD w r p q n sz (j + 1) w2) := fun w2 hd => by obtain ⟨F', G', a', b', t', u', hd⟩ := hd; exact ⟨F', G', a', b', t', u', hd.more (by omega)⟩
      clear hD hDX hDW hG l2 l3 l2X l3X hwf hA e0 e1 e2 e3
      go_cut [12] from 58 to 147 (fun ok wc => ok = .bool true ∧ DD w r p q n sz (j + 1) wc)
      case first =>
        by_cases hk0 : kind = 0
        · subst hk0
          obtain ⟨y, P1, C1, C2⟩ := HR
          clear HW HY HM HC HB
          go_wp2_with fail
          refine C1.mono ?_
          rintro e w5 ⟨x5, l5, c5, rfl, hP⟩
          obtain ⟨hst, C3⟩ := C2 _ _ hP
          have z1 := hst 1 _ y1
          clear C1 C2 hst hP
          go_wp2_with fail
          refine C3.mono ?_
          rintro e w6 ⟨x6, l6, c6, rfl, hDD, B⟩
          go_wp2_with fail
          refine B.mono ?_
          rintro e w7 ⟨rfl, rfl⟩
          clear C3 B
          go_wp2
          go_meet
          case rel => exact ⟨rfl, hDD⟩
        by_cases hk2 : kind = 2
        · subst hk2
          obtain ⟨y, P1, C1, C2⟩ := HY
          clear HR HW HM HC HB
          go_wp2_with fail
          refine C1.mono ?_
          rintro e w5 ⟨rfl, hP⟩
          have C3 := C2 _ hP
          clear C1 C2 hP
          go_wp2_with fail
          refine C3.mono ?_
          rintro e w6 ⟨rfl, hDD⟩
          clear C3
          go_wp2
          go_meet
          case rel => exact ⟨rfl, hDD⟩
        by_cases hk5 : kind = 5
        · subst hk5
          obtain ⟨y, P1, C1, C2⟩ := HB
          clear HR HW HM HC HY
          go_wp2_with fail
          refine C1.mono ?_
          rintro e w5 ⟨rfl, hP⟩
          have C3 := C2 _ hP
          clear C1 C2 hP
          go_wp2_with fail
          refine C3.mono ?_
          rintro e w6 ⟨rfl, hDD⟩
          clear C3
          go_wp2
          go_meet
          case rel => exact ⟨rfl, hzD.out _ hDD⟩
        by_cases hkk1 : kind = 1
        · subst hkk1
          obtain ⟨y, P1, C1, C2⟩ := HW
          clear HR HY HM HC HB
          go_wp2_with fail
          obtain ⟨pG, hpG⟩ : ∃ pG : World → Prop, ∀ w', pG w' ↔ (w'.cell? ⟨wr.heap.size, 1, none⟩ = some (.int .i64 A) ∧ w'.cell? ⟨wr.heap.size, 2, none⟩ = some (.slice ab zs.length cb) ∧ w'.cell? ⟨wr.heap.size, 3, none⟩ = some (.slice ak bs.length ck)) := ⟨_, fun _ => Iff.rfl⟩
          obtain ⟨pR, hpR⟩ : ∃ pR : World → Prop, ∀ w', pR w' ↔ (w'.cell? ⟨r, 0, none⟩ = some (.pointer (some ⟨p, 0, none⟩)) ∧ w'.cell? ⟨wr.heap.size, 1, none⟩ = some (.int .i64 A) ∧ w'.cell? ⟨wr.heap.size, 2, none⟩ = some (.slice ab zs.length cb) ∧ w'.cell? ⟨wr.heap.size, 3, none⟩ = some (.slice ak bs.length ck)) := ⟨_, fun _ => Iff.rfl⟩
          obtain ⟨pT, hpT⟩ : ∃ pT : World → Prop, ∀ w', pT w' ↔ True := ⟨_, fun _ => Iff.rfl⟩
          have hx1 : ∀ x : far.InC pG, x.w.cell? ⟨wr.heap.size, 1, none⟩ = some (.int .i64 A) := fun x => ((hpG _).1 x.h).1
          have hx2 : ∀ x : far.InC pG, x.w.cell? ⟨wr.heap.size, 2, none⟩ = some (.slice ab zs.length cb) := fun x => ((hpG _).1 x.h).2.1
          have hx3 : ∀ x : far.InC pG, x.w.cell? ⟨wr.heap.size, 3, none⟩ = some (.slice ak bs.length ck) := fun x => ((hpG _).1 x.h).2.2
          have hr0 : ∀ x : far.InC pR, x.w.cell? ⟨r, 0, none⟩ = some (.pointer (some ⟨p, 0, none⟩)) := fun x => ((hpR _).1 x.h).1
          have hr1 : ∀ x : far.InC pR, x.w.cell? ⟨wr.heap.size, 1, none⟩ = some (.int .i64 A) := fun x => ((hpR _).1 x.h).2.1
          have hr2 : ∀ x : far.InC pR, x.w.cell? ⟨wr.heap.size, 2, none⟩ = some (.slice ab zs.length cb) := fun x => ((hpR _).1 x.h).2.2.1
          have hr3 : ∀ x : far.InC pR, x.w.cell? ⟨wr.heap.size, 3, none⟩ = some (.slice ak bs.length ck) := fun x => ((hpR _).1 x.h).2.2.2
          have iG : Nonempty (far.InC pG) := ⟨⟨(wr.alloc (.cells #[.int .i64 1, .int .i64 A, .slice ab zs.length cb, .slice ak bs.length ck] 34)), (hpG _).2 ⟨y1, y2, y3⟩⟩⟩
          have iR : Nonempty (far.InC pR) := ⟨⟨(wr.alloc (.cells #[.int .i64 1, .int .i64 A, .slice ab zs.length cb, .slice ak bs.length ck] 34)), (hpR _).2 ⟨y0, y1, y2, y3⟩⟩⟩
          have iT : Nonempty (far.InC pT) := ⟨⟨wr, (hpT _).2 trivial⟩⟩
          have HpG : Hid (∀ w', pG w' ↔ (w'.cell? ⟨wr.heap.size, 1, none⟩ = some (.int .i64 A) ∧ w'.cell? ⟨wr.heap.size, 2, none⟩ = some (.slice ab zs.length cb) ∧ w'.cell? ⟨wr.heap.size, 3, none⟩ = some (.slice ak bs.length ck))) := hpG
          have HpT : Hid (∀ w', pT w' ↔ True) := hpT
          have HYY : Hid (pR (wr.alloc (.cells #[.int .i64 1, .int .i64 A, .slice ab zs.length cb, .slice ak bs.length ck] 34)).drew ∧ pG (wr.alloc (.cells #[.int .i64 1, .int .i64 A, .slice ab zs.length cb, .slice ak bs.length ck] 34)).drew) := ⟨(hpR _).2 ⟨y0, y1, y2, y3⟩, (hpG _).2 ⟨y1, y2, y3⟩⟩
          clear hpG hpT hpR
          refine far.region_farM (fun κ w' => (κ = 0 → pR w') ∧ (κ ≤ 1 → pG w')) [5, 11] (by kernel_rfl) (by kernel_rfl) ⟨fun _ => HYY.out.1, fun _ => HYY.out.2⟩ ?_
          intro L e1 e2 e3
          refine far.farO_stretch pR 5 0 0 e1 e2 e3 (by kernel_rfl) (by kernel_rfl) (fun κ w' hk1 hk2 hC => hC.1 (by omega)) ?_
          simp only [List.take_succ_cons, List.take_zero, List.drop_succ_cons, List.drop_zero, Nat.reduceAdd]
          repeat (go_big_quiet_step (fail))
          refine wpQuiet_nil ?_
          refine far.farO_enter e1 e2 0 rfl rfl 15 #[.pointer (some ⟨r, 0, none⟩), .int .i64 A, .slice ab zs.length cb] (by kernel_rfl) (by kernel_rfl) ?_
          refine C1.mono ?_
          rintro e w5 ⟨rfl, hP⟩
          obtain ⟨hst, C3⟩ := C2 _ hP
          have z1 := hst 1 _ y1
          have z2 := hst 2 _ y2
          have z3 := hst 3 _ y3
          refine ⟨_, rfl, ⟨fun h => by omega, fun _ => (HpG.out _).2 ⟨z1, z2, z3⟩⟩, ?_⟩
          simp only [Act.put, List.setIfInBounds_toArray, List.set_cons_succ, List.set_cons_zero, Nat.reduceAdd]
          refine far.farO_stretch pG 5 0 1 e1 e2 e3 (by kernel_rfl) (by kernel_rfl) (fun κ w' hk1 hk2 hC => hC.2 (by omega)) ?_
          simp only [List.take_succ_cons, List.take_zero, List.drop_succ_cons, List.drop_zero, Nat.reduceAdd]
          repeat (go_big_quiet_step (fail))
          refine wpQuiet_nil ?_
          refine far.farO_enter e1 e2 1 rfl rfl 16 #[.pointer (some ⟨q, 0, none⟩), .int .i64 A, .slice ab zs.length cb] (by kernel_rfl) (by kernel_rfl) ?_
          refine C3.mono ?_
          rintro e w6 ⟨rfl, hDD⟩
          refine ⟨_, rfl, ⟨fun h => by omega, fun h => by omega⟩, ?_⟩
          simp only [Act.put, List.setIfInBounds_toArray, List.set_cons_succ, List.set_cons_zero, Nat.reduceAdd]
          refine far.farO_stretch pT 2 2 2 e1 e2 e3 (by kernel_rfl) (by kernel_rfl) (fun κ w' hk1 hk2 hC => (HpT.out _).2 trivial) ?_
          simp only [List.take_succ_cons, List.take_zero, List.drop_succ_cons, List.drop_zero, Nat.reduceAdd]
          repeat (go_big_quiet_step (fail))
          refine wpQuiet_nil ?_
          refine far.farO_nil ?_
          clear C1 C2 C3 hst hP hx1 hx2 hx3 hr0 hr1 hr2 hr3
          go_wp2
          go_meet
          case rel => exact ⟨by simp, hDD⟩
        by_cases hkk3 : kind = 3
        · subst hkk3
          obtain ⟨y, P1, C1, C2⟩ := HM
          clear HR HY HW HC HB
          go_wp2_with fail
          obtain ⟨pG, hpG⟩ : ∃ pG : World → Prop, ∀ w', pG w' ↔ (w'.cell? ⟨wr.heap.size, 1, none⟩ = some (.int .i64 A) ∧ w'.cell? ⟨wr.heap.size, 2, none⟩ = some (.slice ab zs.length cb) ∧ w'.cell? ⟨wr.heap.size, 3, none⟩ = some (.slice ak bs.length ck)) := ⟨_, fun _ => Iff.rfl⟩
          obtain ⟨pR, hpR⟩ : ∃ pR : World → Prop, ∀ w', pR w' ↔ (w'.cell? ⟨r, 0, none⟩ = some (.pointer (some ⟨p, 0, none⟩)) ∧ w'.cell? ⟨wr.heap.size, 1, none⟩ = some (.int .i64 A) ∧ w'.cell? ⟨wr.heap.size, 2, none⟩ = some (.slice ab zs.length cb) ∧ w'.cell? ⟨wr.heap.size, 3, none⟩ = some (.slice ak bs.length ck)) := ⟨_, fun _ => Iff.rfl⟩
          obtain ⟨pT, hpT⟩ : ∃ pT : World → Prop, ∀ w', pT w' ↔ True := ⟨_, fun _ => Iff.rfl⟩
          have hx1 : ∀ x : far.InC pG, x.w.cell? ⟨wr.heap.size, 1, none⟩ = some (.int .i64 A) := fun x => ((hpG _).1 x.h).1
          have hx2 : ∀ x : far.InC pG, x.w.cell? ⟨wr.heap.size, 2, none⟩ = some (.slice ab zs.length cb) := fun x => ((hpG _).1 x.h).2.1
          have hx3 : ∀ x : far.InC pG, x.w.cell? ⟨wr.heap.size, 3, none⟩ = some (.slice ak bs.length ck) := fun x => ((hpG _).1 x.h).2.2
          have hr0 : ∀ x : far.InC pR, x.w.cell? ⟨r, 0, none⟩ = some (.pointer (some ⟨p, 0, none⟩)) := fun x => ((hpR _).1 x.h).1
          have hr1 : ∀ x : far.InC pR, x.w.cell? ⟨wr.heap.size, 1, none⟩ = some (.int .i64 A) := fun x => ((hpR _).1 x.h).2.1
          have hr2 : ∀ x : far.InC pR, x.w.cell? ⟨wr.heap.size, 2, none⟩ = some (.slice ab zs.length cb) := fun x => ((hpR _).1 x.h).2.2.1
          have hr3 : ∀ x : far.InC pR, x.w.cell? ⟨wr.heap.size, 3, none⟩ = some (.slice ak bs.length ck) := fun x => ((hpR _).1 x.h).2.2.2
          have iG : Nonempty (far.InC pG) := ⟨⟨(wr.alloc (.cells #[.int .i64 3, .int .i64 A, .slice ab zs.length cb, .slice ak bs.length ck] 34)), (hpG _).2 ⟨y1, y2, y3⟩⟩⟩
          have iR : Nonempty (far.InC pR) := ⟨⟨(wr.alloc (.cells #[.int .i64 3, .int .i64 A, .slice ab zs.length cb, .slice ak bs.length ck] 34)), (hpR _).2 ⟨y0, y1, y2, y3⟩⟩⟩
          have iT : Nonempty (far.InC pT) := ⟨⟨wr, (hpT _).2 trivial⟩⟩
          have HpG : Hid (∀ w', pG w' ↔ (w'.cell? ⟨wr.heap.size, 1, none⟩ = some (.int .i64 A) ∧ w'.cell? ⟨wr.heap.size, 2, none⟩ = some (.slice ab zs.length cb) ∧ w'.cell? ⟨wr.heap.size, 3, none⟩ = some (.slice ak bs.length ck))) := hpG
          have HpT : Hid (∀ w', pT w' ↔ True) := hpT
          have HYY : Hid (pR (wr.alloc (.cells #[.int .i64 3, .int .i64 A, .slice ab zs.length cb, .slice ak bs.length ck] 34)).drew ∧ pG (wr.alloc (.cells #[.int .i64 3, .int .i64 A, .slice ab zs.length cb, .slice ak bs.length ck] 34)).drew) := ⟨(hpR _).2 ⟨y0, y1, y2, y3⟩, (hpG _).2 ⟨y1, y2, y3⟩⟩
          clear hpG hpT hpR
          refine far.region_farM (fun κ w' => (κ = 0 → pR w') ∧ (κ ≤ 1 → pG w')) [8, 14] (by kernel_rfl) (by kernel_rfl) ⟨fun _ => HYY.out.1, fun _ => HYY.out.2⟩ ?_
          intro L e1 e2 e3
          refine far.farO_stretch pR 8 0 0 e1 e2 e3 (by kernel_rfl) (by kernel_rfl) (fun κ w' hk1 hk2 hC => hC.1 (by omega)) ?_
          simp only [List.take_succ_cons, List.take_zero, List.drop_succ_cons, List.drop_zero, Nat.reduceAdd]
          repeat (go_big_quiet_step (fail))
          refine wpQuiet_nil ?_
          refine far.farO_enter e1 e2 0 rfl rfl 19 #[.pointer (some ⟨p, 0, none⟩), .int .i64 A, .slice ak bs.length ck] (by kernel_rfl) (by kernel_rfl) ?_
          refine C1.mono ?_
          rintro e w5 ⟨rfl, hP⟩
          obtain ⟨hst, C3⟩ := C2 _ hP
          have z1 := hst 1 _ y1
          have z2 := hst 2 _ y2
          have z3 := hst 3 _ y3
          refine ⟨_, rfl, ⟨fun h => by omega, fun _ => (HpG.out _).2 ⟨z1, z2, z3⟩⟩, ?_⟩
          simp only [Act.put, List.setIfInBounds_toArray, List.set_cons_succ, List.set_cons_zero, Nat.reduceAdd]
          refine far.farO_stretch pG 5 0 1 e1 e2 e3 (by kernel_rfl) (by kernel_rfl) (fun κ w' hk1 hk2 hC => hC.2 (by omega)) ?_
          simp only [List.take_succ_cons, List.take_zero, List.drop_succ_cons, List.drop_zero, Nat.reduceAdd]
          repeat (go_big_quiet_step (fail))
          refine wpQuiet_nil ?_
          refine far.farO_enter e1 e2 1 rfl rfl 20 #[.pointer (some ⟨q, 0, none⟩), .int .i64 A, .slice ak bs.length ck] (by kernel_rfl) (by kernel_rfl) ?_
          refine C3.mono ?_
          rintro e w6 ⟨rfl, hDD⟩
          refine ⟨_, rfl, ⟨fun h => by omega, fun h => by omega⟩, ?_⟩
          simp only [Act.put, List.setIfInBounds_toArray, List.set_cons_succ, List.set_cons_zero, Nat.reduceAdd]
          refine far.farO_stretch pT 2 2 2 e1 e2 e3 (by kernel_rfl) (by kernel_rfl) (fun κ w' hk1 hk2 hC => (HpT.out _).2 trivial) ?_
          simp only [List.take_succ_cons, List.take_zero, List.drop_succ_cons, List.drop_zero, Nat.reduceAdd]
          repeat (go_big_quiet_step (fail))
          refine wpQuiet_nil ?_
          refine far.farO_nil ?_
          clear C1 C2 C3 hst hP hx1 hx2 hx3 hr0 hr1 hr2 hr3
          go_wp2
          go_meet
          case rel => exact ⟨by simp, hzD.out _ hDD⟩
        by_cases hkk4 : kind = 4
        · subst hkk4
          obtain ⟨y, P1, C1, C2⟩ := HC
          clear HR HY HM HW HB
          go_wp2_with fail
          obtain ⟨pG, hpG⟩ : ∃ pG : World → Prop, ∀ w', pG w' ↔ (w'.cell? ⟨wr.heap.size, 1, none⟩ = some (.int .i64 A) ∧ w'.cell? ⟨wr.heap.size, 2, none⟩ = some (.slice ab zs.length cb) ∧ w'.cell? ⟨wr.heap.size, 3, none⟩ = some (.slice ak bs.length ck)) := ⟨_, fun _ => Iff.rfl⟩
          obtain ⟨pR, hpR⟩ : ∃ pR : World → Prop, ∀ w', pR w' ↔ (w'.cell? ⟨r, 0, none⟩ = some (.pointer (some ⟨p, 0, none⟩)) ∧ w'.cell? ⟨wr.heap.size, 1, none⟩ = some (.int .i64 A) ∧ w'.cell? ⟨wr.heap.size, 2, none⟩ = some (.slice ab zs.length cb) ∧ w'.cell? ⟨wr.heap.size, 3, none⟩ = some (.slice ak bs.length ck)) := ⟨_, fun _ => Iff.rfl⟩
          obtain ⟨pT, hpT⟩ : ∃ pT : World → Prop, ∀ w', pT w' ↔ True := ⟨_, fun _ => Iff.rfl⟩
          have hx1 : ∀ x : far.InC pG, x.w.cell? ⟨wr.heap.size, 1, none⟩ = some (.int .i64 A) := fun x => ((hpG _).1 x.h).1
          have hx2 : ∀ x : far.InC pG, x.w.cell? ⟨wr.heap.size, 2, none⟩ = some (.slice ab zs.length cb) := fun x => ((hpG _).1 x.h).2.1
          have hx3 : ∀ x : far.InC pG, x.w.cell? ⟨wr.heap.size, 3, none⟩ = some (.slice ak bs.length ck) := fun x => ((hpG _).1 x.h).2.2
          have hr0 : ∀ x : far.InC pR, x.w.cell? ⟨r, 0, none⟩ = some (.pointer (some ⟨p, 0, none⟩)) := fun x => ((hpR _).1 x.h).1
          have hr1 : ∀ x : far.InC pR, x.w.cell? ⟨wr.heap.size, 1, none⟩ = some (.int .i64 A) := fun x => ((hpR _).1 x.h).2.1
          have hr2 : ∀ x : far.InC pR, x.w.cell? ⟨wr.heap.size, 2, none⟩ = some (.slice ab zs.length cb) := fun x => ((hpR _).1 x.h).2.2.1
          have hr3 : ∀ x : far.InC pR, x.w.cell? ⟨wr.heap.size, 3, none⟩ = some (.slice ak bs.length ck) := fun x => ((hpR _).1 x.h).2.2.2
          have iG : Nonempty (far.InC pG) := ⟨⟨(wr.alloc (.cells #[.int .i64 4, .int .i64 A, .slice ab zs.length cb, .slice ak bs.length ck] 34)), (hpG _).2 ⟨y1, y2, y3⟩⟩⟩
          have iR : Nonempty (far.InC pR) := ⟨⟨(wr.alloc (.cells #[.int .i64 4, .int .i64 A, .slice ab zs.length cb, .slice ak bs.length ck] 34)), (hpR _).2 ⟨y0, y1, y2, y3⟩⟩⟩
          have iT : Nonempty (far.InC pT) := ⟨⟨wr, (hpT _).2 trivial⟩⟩
          have HpG : Hid (∀ w', pG w' ↔ (w'.cell? ⟨wr.heap.size, 1, none⟩ = some (.int .i64 A) ∧ w'.cell? ⟨wr.heap.size, 2, none⟩ = some (.slice ab zs.length cb) ∧ w'.cell? ⟨wr.heap.size, 3, none⟩ = some (.slice ak bs.length ck))) := hpG
          have HpT : Hid (∀ w', pT w' ↔ True) := hpT
          have HYY : Hid (pR (wr.alloc (.cells #[.int .i64 4, .int .i64 A, .slice ab zs.length cb, .slice ak bs.length ck] 34)).drew ∧ pG (wr.alloc (.cells #[.int .i64 4, .int .i64 A, .slice ab zs.length cb, .slice ak bs.length ck] 34)).drew) := ⟨(hpR _).2 ⟨y0, y1, y2, y3⟩, (hpG _).2 ⟨y1, y2, y3⟩⟩
          clear hpG hpT hpR
          refine far.region_farM (fun κ w' => (κ = 0 → pR w') ∧ (κ ≤ 1 → pG w')) [6, 10] (by kernel_rfl) (by kernel_rfl) ⟨fun _ => HYY.out.1, fun _ => HYY.out.2⟩ ?_
          intro L e1 e2 e3
          refine far.farO_stretch pR 6 0 0 e1 e2 e3 (by kernel_rfl) (by kernel_rfl) (fun κ w' hk1 hk2 hC => hC.1 (by omega)) ?_
          simp only [List.take_succ_cons, List.take_zero, List.drop_succ_cons, List.drop_zero, Nat.reduceAdd]
          repeat (go_big_quiet_step (fail))
          refine wpQuiet_nil ?_
          refine far.farO_enter e1 e2 0 rfl rfl 21 #[.pointer (some ⟨p, 0, none⟩), .slice ak bs.length ck] (by kernel_rfl) (by kernel_rfl) ?_
          refine C1.mono ?_
          rintro e w5 ⟨rfl, hP⟩
          obtain ⟨hst, C3⟩ := C2 _ hP
          have z1 := hst 1 _ y1
          have z2 := hst 2 _ y2
          have z3 := hst 3 _ y3
          refine ⟨_, rfl, ⟨fun h => by omega, fun _ => (HpG.out _).2 ⟨z1, z2, z3⟩⟩, ?_⟩
          simp only [Act.put, List.setIfInBounds_toArray, List.set_cons_succ, List.set_cons_zero, Nat.reduceAdd]
          refine far.farO_stretch pG 3 0 1 e1 e2 e3 (by kernel_rfl) (by kernel_rfl) (fun κ w' hk1 hk2 hC => hC.2 (by omega)) ?_
          simp only [List.take_succ_cons, List.take_zero, List.drop_succ_cons, List.drop_zero, Nat.reduceAdd]
          repeat (go_big_quiet_step (fail))
          refine wpQuiet_nil ?_
          refine far.farO_enter e1 e2 1 rfl rfl 22 #[.pointer (some ⟨q, 0, none⟩), .slice ak bs.length ck] (by kernel_rfl) (by kernel_rfl) ?_
          refine C3.mono ?_
          rintro e w6 ⟨rfl, hDD⟩
          refine ⟨_, rfl, ⟨fun h => by omega, fun h => by omega⟩, ?_⟩
          simp only [Act.put, List.setIfInBounds_toArray, List.set_cons_succ, List.set_cons_zero, Nat.reduceAdd]
          refine far.farO_stretch pT 2 2 2 e1 e2 e3 (by kernel_rfl) (by kernel_rfl) (fun κ w' hk1 hk2 hC => (HpT.out _).2 trivial) ?_
          simp only [List.take_succ_cons, List.take_zero, List.drop_succ_cons, List.drop_zero, Nat.reduceAdd]
          repeat (go_big_quiet_step (fail))
          refine wpQuiet_nil ?_
          refine far.farO_nil ?_
          clear C1 C2 C3 hst hP hx1 hx2 hx3 hr0 hr1 hr2 hr3
          go_wp2
          go_meet
          case rel => exact ⟨by simp, hzD.out _ hDD⟩
        clear HR HY HM HW HB HC
        go_wp2
        go_meet
        case rel => exact ⟨rfl, HDX.out⟩
      case rest =>
        clear HR HW HY HM HC HB HDX hzD y0 y1 y2 y3 hg
        obtain ⟨rfl, F5, G5, m5, n5, T5, U5, hD5⟩ := hcut
        go_upto_region 31 with fail
        obtain ⟨RO, xt, ct, RT, hTr⟩ := dref hD5
        have RP := hD5.rc.ptr
        have HUP : Hid (∀ w', Chg no wc w' → Calls Try.prog 25 #[.pointer (some ⟨p, 0, none⟩)] w' (fun e w'' => e = .returned (.bool m5.up) ∧ w'' = w') ∧ Calls Try.prog 26 #[.pointer (some ⟨q, 0, none⟩)] w' (fun e w'' => e = .returned (.bool m5.up) ∧ w'' = w')) := fun w' c => dup (hD5.same c)
        have HOP : Hid (∀ w', Chg no wc w' → Calls Try.prog 27 #[.pointer (some ⟨p, 0, none⟩)] w' (fun e w'' => e = .returned (.int .i64 m5.ops) ∧ w'' = w')) := fun w' c => dops (hD5.same c)
        have HMK : Hid (∀ w', Chg no wc w' → Calls Try.prog 28 #[.pointer (some ⟨r, 0, none⟩)] w' (fun e w'' => e = .returned (.int .i64 T5.length) ∧ w'' = w')) := fun w' c => mark_any (hD5.same c).rc
        have HPK : Hid (∀ w', Chg no wc w' → ∃ (P1 : Value → World → Prop), Calls Try.prog 29 #[.pointer (some ⟨p, 0, none⟩), .int .i64 0] w' (fun e w1 => ∃ x l c, e = .returned (.slice x l c) ∧ P1 (.slice x l c) w1 ∧ Chg no w' w1) ∧
          ∀ u w1, P1 u w1 → Calls Try.prog 30 #[.pointer (some ⟨q, 0, none⟩), .int .i64 0] w1 (fun e w2 => ∃ x l c, e = .returned (.slice x l c) ∧ Chg no w1 w2 ∧ Calls Try.prog 14 #[u, .slice x l c] w2 fun e w3 => e = .returned (.bool true) ∧ w3 = w2)) := fun w' c => dpeek (hD5.same c) (by omega) 0
        have HD5 : Hid (∀ w', Chg no wc w' → DD w r p q n sz (j + 1) w') := fun w' c => ⟨_, _, _, _, _, _, hD5.same c⟩
        obtain ⟨u, hu⟩ : ∃ u, m5.up = u := ⟨_, rfl⟩
        obtain ⟨N5, hN5⟩ : ∃ L, T5.length = L := ⟨_, rfl⟩
        obtain ⟨P5, hP5⟩ : ∃ P, m5.ops = P := ⟨_, rfl⟩
        rw [hu] at HUP
        rw [hP5] at HOP RO
        rw [hN5] at HMK RT
        clear hD5 hTr hu hN5 hP5
        have du : (u != u) = false := by simp
        go_cut [192] from 148 to 192 (fun v wc' => v = .bool false ∧ Chg no wc wc')
        case first =>
          obtain ⟨pG, hpG⟩ : ∃ pG : World → Prop, ∀ w', pG w' ↔ Chg no wc w' := ⟨_, fun _ => Iff.rfl⟩
          have hx0 : ∀ x : far.InC pG, x.w.cell? ⟨r, 0, none⟩ = some (.pointer (some ⟨p, 0, none⟩)) := fun x => ((hpG _).1 x.h).cell RP id
          have hx1 : ∀ x : far.InC pG, x.w.cell? ⟨q, 2, none⟩ = some (.int .i64 P5) := fun x => ((hpG _).1 x.h).cell RO id
          have hx2 : ∀ x : far.InC pG, x.w.cell? ⟨q, 8, none⟩ = some (.slice xt N5 ct) := fun x => ((hpG _).1 x.h).cell RT id
          have iG : Nonempty (far.InC pG) := ⟨⟨wc, (hpG _).2 (Chg.refl no wc)⟩⟩
          have HG : Hid (∀ w', pG w' ↔ Chg no wc w') := hpG
          clear hpG RP RO RT
          refine far.region_farM (fun κ w' => pG w') [7, 9, 17, 26, 39, 41, 42] (by kernel_rfl) (by kernel_rfl) ((HG.out _).2 (Chg.refl no wc).drew) ?_
          intro L e1 e2 e3
          have C0 : Chg no wc wc.drew := (Chg.refl no wc).drew
          refine far.farO_stretch pG 7 0 0 e1 e2 e3 (by kernel_rfl) (by kernel_rfl) (fun κ w' hk1 hk2 hC => hC) ?_
          simp only [List.take_succ_cons, List.take_zero, List.drop_succ_cons, List.drop_zero, Nat.reduceAdd]
          repeat (go_big_quiet_step (fail))
          refine wpQuiet_nil ?_
          refine far.farO_enter e1 e2 0 rfl rfl 25 #[.pointer (some ⟨p, 0, none⟩)] (by kernel_rfl) (by kernel_rfl) ?_
          refine (HUP.out _ C0).1.mono ?_
          rintro e w5 ⟨rfl, rfl⟩
          refine ⟨_, rfl, (HG.out _).2 C0, ?_⟩
          simp only [Act.put, List.setIfInBounds_toArray, List.set_cons_succ, List.set_cons_zero, Nat.reduceAdd]
          refine far.farO_stretch pG 1 0 1 e1 e2 e3 (by kernel_rfl) (by kernel_rfl) (fun κ w' hk1 hk2 hC => hC) ?_
          simp only [List.take_succ_cons, List.take_zero, List.drop_succ_cons, List.drop_zero, Nat.reduceAdd]
          repeat (go_big_quiet_step (fail))
          refine wpQuiet_nil ?_
          refine far.farO_enter e1 e2 1 rfl rfl 26 #[.pointer (some ⟨q, 0, none⟩)] (by kernel_rfl) (by kernel_rfl) ?_
          refine (HUP.out _ C0).2.mono ?_
          rintro e w5 ⟨rfl, rfl⟩
          refine ⟨_, rfl, (HG.out _).2 C0, ?_⟩
          simp only [Act.put, List.setIfInBounds_toArray, List.set_cons_succ, List.set_cons_zero, Nat.reduceAdd]
          refine far.farO_stretch pG 7 0 2 e1 e2 e3 (by kernel_rfl) (by kernel_rfl) (fun κ w' hk1 hk2 hC => hC) ?_
          simp only [List.take_succ_cons, List.take_zero, List.drop_succ_cons, List.drop_zero, Nat.reduceAdd]
          repeat (go_big_quiet_step (fail))
          refine wpQuiet_nil ?_
          refine far.farO_enter e1 e2 2 rfl rfl 27 #[.pointer (some ⟨p, 0, none⟩)] (by kernel_rfl) (by kernel_rfl) ?_
          refine (HOP.out _ C0).mono ?_
          rintro e w5 ⟨rfl, rfl⟩
          refine ⟨_, rfl, (HG.out _).2 C0, ?_⟩
          simp only [Act.put, List.setIfInBounds_toArray, List.set_cons_succ, List.set_cons_zero, Nat.reduceAdd]
          refine far.farO_stretch pG 8 0 3 e1 e2 e3 (by kernel_rfl) (by kernel_rfl) (fun κ w' hk1 hk2 hC => hC) ?_
          simp only [List.take_succ_cons, List.take_zero, List.drop_succ_cons, List.drop_zero, Nat.reduceAdd]
          repeat (go_big_quiet_step (fail))
          refine wpQuiet_nil ?_
          refine far.farO_enter e1 e2 3 rfl rfl 28 #[.pointer (some ⟨r, 0, none⟩)] (by kernel_rfl) (by kernel_rfl) ?_
          refine (HMK.out _ C0).mono ?_
          rintro e w5 ⟨rfl, rfl⟩
          refine ⟨_, rfl, (HG.out _).2 C0, ?_⟩
          simp only [Act.put, List.setIfInBounds_toArray, List.set_cons_succ, List.set_cons_zero, Nat.reduceAdd]
          refine far.farO_stretch pG 12 0 4 e1 e2 e3 (by kernel_rfl) (by kernel_rfl) (fun κ w' hk1 hk2 hC => hC) ?_
          simp only [List.take_succ_cons, List.take_zero, List.drop_succ_cons, List.drop_zero, Nat.reduceAdd]
          repeat (go_big_quiet_step (fail))
          refine wpQuiet_nil ?_
          obtain ⟨P1, Q1, Q2⟩ := HPK.out _ C0
          refine far.farO_enter e1 e2 4 rfl rfl 29 #[.pointer (some ⟨p, 0, none⟩), .int .i64 0] (by kernel_rfl) (by kernel_rfl) ?_
          refine Q1.mono ?_
          rintro e w6 ⟨x6, l6, c6, rfl, hP6, k6⟩
          have C6 := C0.then k6
          have Q3 := Q2 _ _ hP6
          clear Q1 Q2 hP6
          refine ⟨_, rfl, (HG.out _).2 C6, ?_⟩
          simp only [Act.put, List.setIfInBounds_toArray, List.set_cons_succ, List.set_cons_zero, Nat.reduceAdd]
          refine far.farO_stretch pG 1 0 5 e1 e2 e3 (by kernel_rfl) (by kernel_rfl) (fun κ w' hk1 hk2 hC => hC) ?_
          simp only [List.take_succ_cons, List.take_zero, List.drop_succ_cons, List.drop_zero, Nat.reduceAdd]
          repeat (go_big_quiet_step (fail))
          refine wpQuiet_nil ?_
          refine far.farO_enter e1 e2 5 rfl rfl 30 #[.pointer (some ⟨q, 0, none⟩), .int .i64 0] (by kernel_rfl) (by kernel_rfl) ?_
          refine Q3.mono ?_
          rintro e w7 ⟨x7, l7, c7, rfl, k7, B7⟩
          have C7 := C6.then k7
          clear Q3
          refine ⟨_, rfl, (HG.out _).2 C7, ?_⟩
          simp only [Act.put, List.setIfInBounds_toArray, List.set_cons_succ, List.set_cons_zero, Nat.reduceAdd]
          refine far.farO_enter e1 e2 6 rfl rfl 14 #[.slice x6 l6 c6, .slice x7 l7 c7] (by kernel_rfl) (by kernel_rfl) ?_
          refine B7.mono ?_
          rintro e w8 ⟨rfl, rfl⟩
          clear B7
          refine ⟨_, rfl, (HG.out _).2 C7, ?_⟩
          simp only [Act.put, List.setIfInBounds_toArray, List.set_cons_succ, List.set_cons_zero, Nat.reduceAdd]
          refine far.farO_stretch pG 2 0 7 e1 e2 e3 (by kernel_rfl) (by kernel_rfl) (fun κ w' hk1 hk2 hC => hC) ?_
          simp only [List.take_succ_cons, List.take_zero, List.drop_succ_cons, List.drop_zero, Nat.reduceAdd]
          repeat (go_big_quiet_step (fail))
          refine wpQuiet_nil ?_
          refine far.farO_nil ?_
          clear hx0 hx1 hx2 HUP HOP HMK HPK
          go_wp2
          go_meet
          case rel => exact ⟨by simp, C7⟩
        case rest =>
          obtain ⟨rfl, C⟩ := hcut
          have HE := HD5.out _ C
          clear HD5 HUP HOP HMK HPK RP RO RT C
          go_wp2
          go_roundw
          case rel => exact ⟨j + 1, by omega, by go_num, HE⟩
          case measure => simp [intOf]; omega
    · obtain rfl : j = len2 := by omega
      have hji : (j : Int) ≤ (j : Int) := by omega
      have hC := hD.chg
      have hle := hD.le
      have hjb : j ≤ 200 := HF.out.1
      obtain ⟨_, xt, ct, RT, hTr⟩ := dref hD
      have HTR : Hid (∀ w', Chg no wr w' → Calls Try.prog 33 #[.pointer (some ⟨r, 0, none⟩)] w' fun e w'' => ∃ g, e = .returned (.slice (some ⟨g, 0, none⟩) T.length T.length) ∧ Chg no w' w'' ∧ ∃ U, Tra (fun j => w'.heap.size ≤ j) w'' (.slice (some ⟨g, 0, none⟩) T.length T.length) U ∧ U.map Rec.tell = T'.map Rec.tell) := by
        intro w' c
        refine (trace_any (hD.same c).rc (by omega) hD.zs).mono ?_
        rintro e w'' ⟨g, rfl, hg, L⟩
        obtain ⟨U, tu, ttu, ku⟩ := L.tra rfl hg
        exact ⟨g, rfl, ku, U, tu, ttu.trans hD.tell⟩
      obtain ⟨N, hN⟩ : ∃ N, T.length = N := ⟨_, rfl⟩
      rw [hN] at HTR RT hTr hle
      have HTr : Hid (Tra G wr (.slice xt N ct) T') := hTr
      clear hD hTr hN
      go_upto_region 33 with fail
      obtain ⟨pG, hpG⟩ : ∃ pG : World → Prop, ∀ w', pG w' ↔ Chg no wr w' := ⟨_, fun _ => Iff.rfl⟩
      have hx2 : ∀ x : far.InC pG, x.w.cell? ⟨q, 8, none⟩ = some (.slice xt N ct) := fun x => ((hpG _).1 x.h).cell RT id
      have iG : Nonempty (far.InC pG) := ⟨⟨wr, (hpG _).2 (Chg.refl no wr)⟩⟩
      have HG : Hid (∀ w', pG w' ↔ Chg no wr w') := hpG
      clear hpG RT
      refine far.region_farM (fun κ w' => pG w') [0, 3, 4, 9] (by kernel_rfl) (by kernel_rfl) ((HG.out _).2 (Chg.refl no wr).drew) ?_
      intro L e1 e2 e3
      have C0 : Chg no wr wr.drew := (Chg.refl no wr).drew
      refine far.farO_enter e1 e2 0 rfl rfl 8 #[] (by kernel_rfl) (by kernel_rfl) ?_
      refine (first_any _).mono ?_
      rintro e w5 ⟨rfl, k5⟩
      have C5 := C0.then k5
      refine ⟨_, rfl, (HG.out _).2 C5, ?_⟩
      simp only [Act.put, List.setIfInBounds_toArray, List.set_cons_succ, List.set_cons_zero, Nat.reduceAdd]
      refine far.farO_stretch pG 2 0 1 e1 e2 e3 (by kernel_rfl) (by kernel_rfl) (fun κ w' hk1 hk2 hC => hC) ?_
      simp only [List.take_succ_cons, List.take_zero, List.drop_succ_cons, List.drop_zero, Nat.reduceAdd]
      repeat (go_big_quiet_step (fail))
      refine wpQuiet_nil ?_
      refine far.farO_enter e1 e2 1 rfl rfl 33 #[.pointer (some ⟨r, 0, none⟩)] (by kernel_rfl) (by kernel_rfl) ?_
      refine (HTR.out _ C5).mono ?_
      rintro e w6 ⟨g, rfl, k6, U, tu, ttu⟩
      have C6 := C5.then k6
      refine ⟨_, rfl, (HG.out _).2 C6, ?_⟩
      simp only [Act.put, List.setIfInBounds_toArray, List.set_cons_succ, List.set_cons_zero, Nat.reduceAdd]
      refine far.farO_enter e1 e2 2 rfl rfl 32 #[.slice (some ⟨g, 0, none⟩) N N] (by kernel_rfl) (by kernel_rfl) ?_
      refine (plain_tra tu (by omega)).mono ?_
      rintro e w7 ⟨x7, c7, rfl, t7, k7⟩
      have C7 := C6.then k7
      refine ⟨_, rfl, (HG.out _).2 C7, ?_⟩
      simp only [Act.put, List.setIfInBounds_toArray, List.set_cons_succ, List.set_cons_zero, Nat.reduceAdd]
      refine far.farO_stretch pG 4 0 3 e1 e2 e3 (by kernel_rfl) (by kernel_rfl) (fun κ w' hk1 hk2 hC => hC) ?_
      simp only [List.take_succ_cons, List.take_zero, List.drop_succ_cons, List.drop_zero, Nat.reduceAdd]
      repeat (go_big_quiet_step (fail))
      refine wpQuiet_nil ?_
      have SO := sameOps_any t7 (HTr.out.same C7) (by omega) (by omega)
      rw [keys_of_tell ttu] at SO
      simp only [decide_true] at SO
      refine far.farO_enter e1 e2 3 rfl rfl 31 #[.slice x7 N c7, .slice xt N ct] (by kernel_rfl) (by kernel_rfl) ?_
      refine SO.mono ?_
      rintro e w8 ⟨rfl, k8⟩
      have C8 := C7.then k8
      clear SO t7 tu
      refine ⟨_, rfl, (HG.out _).2 C8, ?_⟩
      simp only [Act.put, List.setIfInBounds_toArray, List.set_cons_succ, List.set_cons_zero, Nat.reduceAdd]
      refine far.farO_stretch pG 2 0 4 e1 e2 e3 (by kernel_rfl) (by kernel_rfl) (fun κ w' hk1 hk2 hC => hC) ?_
      simp only [List.take_succ_cons, List.take_zero, List.drop_succ_cons, List.drop_zero, Nat.reduceAdd]
      repeat (go_big_quiet_step (fail))
      refine wpQuiet_nil ?_
      refine far.farO_nil ?_
      clear hx2
      go_wp2
      go_ret
      exact ⟨rfl, (hC.then C8).below⟩

theorem walk (w : World) (a0 : Int) (a1 : Int) (a2 : Option Addr) (len2 cap2 : Nat) (O : Nat → OpA) (w0 : (Lit.int .i64 a0).wf = true) (w1 : (Lit.int .i64 a1).wf = true) (A2 : OpsAt w a2 len2 O) (c2 : len2 ≤ cap2) :
    Calls Try.prog 3 #[.int .i64 a0, .int .i64 a1, .slice a2 len2 cap2] w fun e w' => e = .returned (.bool true) ∧ Below w.heap.size w w' := by
  by_cases hh : a0 < 1 ∨ 40 < a0 ∨ a1 < 1 ∨ 40 < a1
  · exact early w a0 a1 a2 len2 cap2 O A2 hh
  · obtain ⟨n, rfl⟩ := Int.eq_ofNat_of_zero_le (show 0 ≤ a0 by omega)
    obtain ⟨sz, rfl⟩ := Int.eq_ofNat_of_zero_le (show 0 ≤ a1 by omega)
    exact late w n sz a2 len2 cap2 O A2 (by omega) (by omega) (by omega) (by omega)

theorem own : ownKnob Try.prog.godebug = none := by kernel_rfl
theorem laidOut : laidOutB Try.prog = true := by kernel_rfl

set_option maxRecDepth 100000 in
theorem lifted (os : Os) (started : os.Started) (H : Type) (enc : TypeId × Value → H) :
    ReturnsInHanded {} Try.checked os 3 .any (Rows.traceTellsSpec.pre6 enc Try.prog Try.f3 Rows.traceTellsRow.domain false) (Rows.traceTellsSpec.post enc Try.prog Try.f3 false true false false) := by
  refine returnsInHanded_of_change (C := Try.checked) own started (by kernel_rfl) Try.func3
    (ChangeSpec.witness6 (enc := enc) (C := Try.checked) false ⟨#[], #[.int .i64 0, .int .i64 0, .slice none 0 0], []⟩ 8 (by kernel_rfl) (by kernel_rfl) (by kernel_rfl) (by kernel_rfl)) ?_
  intro W base args ds gs before hval0 hW hcnd _
  have hval : ∀ (j : Nat) t v, Try.f3.params[j]? = some t → args[j]? = some v → Value.okWide Try.prog W .any base t v := hval0
  have hW' := hW
  obtain ⟨p, q, hA0, hV, rfl, hfz, hnd⟩ := hW
  have hA : DataW.TrodAll enc Try.prog W 0 (fun _ => true) true Try.f3.params.toList args.toList ds p := hA0
  rw [Try.params3] at hA hval
  obtain ⟨v0, vs0, d0, ds0, p0, q0, hargs, rfl, rfl, h0, r0⟩ := trodAll_cons hA
  obtain ⟨v1, vs1, d1, ds1, p1, q1, rfl, rfl, rfl, h1, r1⟩ := trodAll_cons r0
  obtain ⟨v2, vs2, d2, ds2, p2, q2, rfl, rfl, rfl, h2, r2⟩ := trodAll_cons r1
  obtain ⟨rfl, rfl, rfl⟩ := trodAll_nil r2
  obtain rfl : args = #[v0, v1, v2] := by cases args; simp_all
  obtain ⟨rfl, rfl⟩ := trodVars_none hV
  obtain ⟨a0, rfl, rfl, rfl, w0⟩ := open_int Try.underlying3 (hval 0 3 v0 rfl rfl) h0
  obtain ⟨a1, rfl, rfl, rfl, w1⟩ := open_int Try.underlying3 (hval 1 3 v1 rfl rfl) h1
  obtain ⟨a2, len2, cap2, rfl⟩ := okWide_slice Try.underlying22 (hval 2 22 v2 rfl rfl)
  have k2 := h2
  have lt2 : ∀ x ∈ p2, x.block < W.heap.size := by obtain ⟨m, hm⟩ := k2; exact DataW.trod_lt m _ _ _ hm
  have c2 : len2 ≤ cap2 := by obtain ⟨m, hm⟩ := k2; exact (open_cap Try.underlying22 hm).1
  obtain ⟨O2, w2⟩ := (by obtain ⟨fuel, hf⟩ := h2; exact open_ops hf : ∃ z : Nat → OpA, OpsAt W a2 len2 z)
  clear hA0 hval0
  refine (walk W a0 a1 a2 len2 cap2 O2 w0 w1 w2 c2).mono fun e W' ⟨he, bel⟩ => ?_
  subst he
  exact ⟨_, rfl, _, _, _, [], _, [], hW', trodAll_mk1 (shut_bool Try.underlying4 _), (trodAll_cons_mk (shut_int Try.underlying3 w0) (trodAll_cons_mk (shut_int Try.underlying3 w1) (trodAll_cons_mk (Below.trod laidOut (by kernel_rfl) (of_decide_eq_true (by kernel_rfl)) k2 bel lt2) trodAll_mk0))), rfl, bel.frame _, fun h => by cases h⟩

theorem over : Rows.traceTellsRow.holds Try.pinned (OpenSpec.ofChange Rows.traceTellsSpec) :=
  OpenClaim.holds_of_wide 3 Try.f3 rfl rfl rfl rfl rfl rfl rfl ⟨rfl, rfl, rfl, rfl, rfl⟩ rfl rfl rfl rfl rfl (by kernel_rfl) Try.func3 (by kernel_rfl)
    (of_decide_eq_true (by kernel_rfl)) (by unfold Func.isWrapper; first | (rw [if_pos (by decide +kernel)]; kernel_rfl) | (rw [if_neg (by decide +kernel)]; exact ⟨rfl, rfl⟩))
    (fun os started H enc _ => lifted os started H enc)

theorem proved : Rows.TraceTellsSaid := over
end Go.Proofs.Yteehphmedmplkaa.traceTells
namespace Go.Proofs.Yteehphmedmplkaa
theorem traceTells_holds : Rows.TraceTellsSaid := traceTells.proved
#print axioms traceTells_holds
end Go.Proofs.Yteehphmedmplkaa
