/-
  Proved: for every three numbers the law NonceEnds returns true; no condition.
-/
import Derived.Test.YthmpkalalceapaaFst
import Derived.Below
namespace Go.Proofs.Ythmpkalalceapaa.nonceEnds
open Go.ChangeShapes Go.WideShapes Go.ChangeAt Go.RowKit Go.Proofs.Ythmpkalalceapaa.hp Go.Proofs.Ythmpkalalceapaa.dg Go.Proofs.Ythmpkalalceapaa.st
set_option linter.unusedVariables false

set_option maxRecDepth 100000 in
set_option maxHeartbeats 2000000 in
theorem early (w : World) (a0 a1 a2 : Int) (hh : a0 < 1 ∨ 1099511627776 < a0 ∨ a1 < 0 ∨ 200 < a1 ∨ a2 < 0 ∨ 20 < a2) :
    Calls Try.prog 7 #[.int .i64 a0, .int .i64 a1, .int .i64 a2] w fun e w' => e = .returned (.bool true) ∧ Below w.heap.size w w' := by
  have hc : (a0 < 1) ∨ (1 ≤ a0 ∧ 1099511627776 < a0) ∨ (1 ≤ a0 ∧ a0 ≤ 1099511627776 ∧ a1 < 0) ∨ (1 ≤ a0 ∧ a0 ≤ 1099511627776 ∧ 0 ≤ a1 ∧ 200 < a1) ∨ (1 ≤ a0 ∧ a0 ≤ 1099511627776 ∧ 0 ≤ a1 ∧ a1 ≤ 200 ∧ a2 < 0) ∨ (1 ≤ a0 ∧ a0 ≤ 1099511627776 ∧ 0 ≤ a1 ∧ a1 ≤ 200 ∧ 0 ≤ a2 ∧ 20 < a2) := by omega
  clear hh
  rcases hc with h1 | ⟨h1, h2⟩ | ⟨h1, h2, h3⟩ | ⟨h1, h2, h3, h4⟩ | ⟨h1, h2, h3, h4, h5⟩ | ⟨h1, h2, h3, h4, h5, h6⟩
  all_goals
    go_enter Try.func7, Try.ntmps7
    go_wp2_with fail
    refine (first_any _).mono ?_
    rintro e w1 ⟨rfl, k1⟩
    go_wp2_with fail
    refine (first_any _).mono ?_
    rintro e w3 ⟨rfl, k3⟩
    go_wp2
    go_ret
    exact ⟨rfl, (k1.then k3).below⟩

/-- The source within the law. -/
def EAt (w : World) (p : Nat) (g c : Int) (wr : World) : Prop := Src wr p 47 g c 1099511627776 ∧ Chg no w wr ∧ w.heap.size ≤ p

theorem EAt.step {w wr w' : World} {p : Nat} {g c : Int} (h : EAt w p g c wr) (hs : Src w' p 47 g (c + 1) 1099511627776) (hc : Chg (fun k => k = p) wr w') : EAt w p g (c + 1) w' :=
  ⟨hs, h.2.1.trans hc (fun b hb => .inr (by rw [hb]; exact h.2.2)), h.2.2⟩

theorem EAt.same {w wr w' : World} {p : Nat} {g c : Int} (h : EAt w p g c wr) (hc : Chg no wr w') : EAt w p g c w' := ⟨h.1.chg hc id, h.2.1.then hc, h.2.2⟩

set_option maxRecDepth 100000 in
set_option maxHeartbeats 8000000 in
theorem late (w : World) (g : Int) (l m : Nat) (h1 : 1 ≤ g) (h2 : g ≤ 1099511627776) (h3 : l ≤ 200) (h4 : m ≤ 20) :
    Calls Try.prog 7 #[.int .i64 g, .int .i64 l, .int .i64 m] w fun e w' => e = .returned (.bool true) ∧ Below w.heap.size w w' := by
  have i3 : (l : Int) ≤ 200 := by omega
  have i4 : (m : Int) ≤ 20 := by omega
  go_enter Try.func7, Try.ntmps7
  go_wp2_with fail
  refine (first_any _).mono ?_
  rintro e w1 ⟨rfl, k1⟩
  have HA := at_some w1 g (1099511627776 - l) 1099511627776 (decide_eq_true (by omega))
  go_wp2_with fail
  refine HA.mono ?_
  rintro e w2 ⟨rfl, s2, k2⟩
  have HL := left_any s2 (by omega) (by omega) (by omega)
  rw [show (1099511627776 : Int) - (1099511627776 - l) = l by omega] at HL
  have hz1 := k1.size
  have hE : EAt w w1.heap.size g (1099511627776 - l) w2 := ⟨s2, k1.then k2, hz1⟩
  obtain ⟨p, hp⟩ : ∃ p, w1.heap.size = p := ⟨_, rfl⟩
  rw [hp] at HL hE ⊢
  clear HA s2 k2 k1 hz1 hp
  go_wp2_with fail
  refine HL.mono ?_
  rintro e w3 ⟨rfl, k3⟩
  have hE3 := hE.same k3
  clear HL hE k3
  go_wp2_with fail
  go_loopw [8] (fun i wr => ∃ j : Nat, j ≤ l ∧ i = .int .i64 (j : Int) ∧ EAt w p g (1099511627776 - l + j) wr) (fun i _ => l - (intOf i).toNat)
  case atStart => exact ⟨0, by omega, rfl, by simpa using hE3⟩
  case round =>
    clear hE3
    obtain ⟨j, hj, rfl, hB⟩ := hrel
    by_cases hjn : j < l
    · have hji : (j : Int) < l := by omega
      have HN := next_go hB.1 (by omega) (by omega) (by omega)
      have HM := fun w => may_any w g (1099511627776 - (l : Int) + j)
      have hm : may g (1099511627776 - (l : Int) + j) = true := decide_eq_true (by omega)
      simp only [hm] at HM
      clear hm
      go_wp2_with fail
      refine HN.mono ?_
      rintro e w5 ⟨rfl, s5, k5⟩
      have E5 := hB.step s5 k5
      clear HN hB s5 k5
      go_wp2_with fail
      refine (HM _).mono ?_
      rintro e w6 ⟨rfl, k6⟩
      have g6 : w6.heap[w5.heap.size]? = some (.cells #[.int .i64 g, .int .i64 (1099511627776 - (l : Int) + j)] 23 (0, 0)) := k6.heap (heap_alloc_new _ _) id
      obtain ⟨a0, b0⟩ := row_cell (xs := [_, _]) g6 0 _ rfl
      obtain ⟨a1, b1⟩ := row_cell (xs := [_, _]) g6 1 _ rfl
      have E6 := E5.same (((Chg.refl no w5).alloc _).then k6)
      clear HM E5 k6 g6
      go_wp2
      go_roundw
      case rel => exact ⟨j + 1, by omega, by go_num, by rw [show (1099511627776 : Int) - l + ((j + 1 : Nat) : Int) = 1099511627776 - l + j + 1 by omega]; exact E6⟩
      case measure => simp [intOf]; omega
    · obtain rfl : j = l := by omega
      have hji : (j : Int) ≤ (j : Int) := by omega
      rw [show (1099511627776 : Int) - j + j = 1099511627776 by omega] at hB
      go_wp2_with fail
      go_loopw [11] (fun i wr => ∃ k : Nat, k ≤ m ∧ i = .int .i64 (k : Int) ∧ EAt w p g 1099511627776 wr) (fun i _ => m - (intOf i).toNat)
      case atStart => exact ⟨0, by omega, rfl, hB⟩
      case round =>
        clear hB
        obtain ⟨k, hk, rfl, hB⟩ := hrel
        by_cases hkn : k < m
        · have hki : (k : Int) < m := by omega
          have HN := next_end hB.1 (by omega) (by omega)
          go_wp2_with fail
          refine HN.mono ?_
          rintro e w5 ⟨rfl, k5⟩
          have E5 := hB.same k5
          have E6 := E5.same ((Chg.refl no w5).alloc (.cells #[.int .i64 0, .int .i64 0] 23))
          have HL := left_any E6.1 (by omega) (by omega) (by omega)
          rw [show (1099511627776 : Int) - 1099511627776 = 0 by omega] at HL
          clear HN hB k5 E5
          go_wp2_with fail
          refine HL.mono ?_
          rintro e w7 ⟨rfl, k7⟩
          have E7 := E6.same k7
          obtain ⟨c0, c1, c2, c3, c4, c5⟩ := E7.1.cells
          clear HL E6 k7
          go_wp2
          go_roundw
          case rel => exact ⟨k + 1, by omega, by go_num, E7⟩
          case measure => simp [intOf]; omega
        · obtain rfl : k = m := by omega
          have hki : (k : Int) ≤ (k : Int) := by omega
          have HA := fun w => at_none w g 3 2 (decide_eq_false (by omega))
          go_wp2_with fail
          refine (first_any _).mono ?_
          rintro e w8 ⟨rfl, k8⟩
          go_wp2_with fail
          refine (HA _).mono ?_
          rintro e w9 ⟨rfl, rfl⟩
          go_wp2
          go_ret
          exact ⟨rfl, (hB.2.1.then k8).below⟩

theorem walk (w : World) (a0 a1 a2 : Int) (w0 : (Lit.int .i64 a0).wf = true) (w1 : (Lit.int .i64 a1).wf = true) (w2 : (Lit.int .i64 a2).wf = true) :
    Calls Try.prog 7 #[.int .i64 a0, .int .i64 a1, .int .i64 a2] w fun e w' => e = .returned (.bool true) ∧ Below w.heap.size w w' := by
  by_cases hh : a0 < 1 ∨ 1099511627776 < a0 ∨ a1 < 0 ∨ 200 < a1 ∨ a2 < 0 ∨ 20 < a2
  · exact early w a0 a1 a2 hh
  · obtain ⟨l, rfl⟩ := Int.eq_ofNat_of_zero_le (show 0 ≤ a1 by omega)
    obtain ⟨m, rfl⟩ := Int.eq_ofNat_of_zero_le (show 0 ≤ a2 by omega)
    exact late w a0 l m (by omega) (by omega) (by omega) (by omega)

theorem own : ownKnob Try.prog.godebug = none := by kernel_rfl
theorem laidOut : laidOutB Try.prog = true := by kernel_rfl

set_option maxRecDepth 100000 in
theorem lifted (os : Os) (started : os.Started) (H : Type) (enc : TypeId × Value → H) :
    ReturnsInHanded {} Try.checked os 7 .any (Rows.nonceEndsSpec.pre6 enc Try.prog Try.f7 Rows.nonceEndsRow.domain false) (Rows.nonceEndsSpec.post enc Try.prog Try.f7 false true false false) := by
  refine returnsInHanded_of_change (C := Try.checked) own started (by kernel_rfl) Try.func7
    (ChangeSpec.witness6 (enc := enc) (C := Try.checked) false ⟨#[], #[.int .i64 0, .int .i64 0, .int .i64 0], []⟩ 8 (by kernel_rfl) (by kernel_rfl) (by kernel_rfl) (by kernel_rfl)) ?_
  intro W base args ds gs before hval0 hW hcnd _
  have hval : ∀ (j : Nat) t v, Try.f7.params[j]? = some t → args[j]? = some v → Value.okWide Try.prog W .any base t v := hval0
  have hW' := hW
  obtain ⟨p, q, hA0, hV, rfl, hfz, hnd⟩ := hW
  have hA : DataW.TrodAll enc Try.prog W 0 (fun _ => true) true Try.f7.params.toList args.toList ds p := hA0
  rw [Try.params7] at hA hval
  obtain ⟨v0, vs0, d0, ds0, p0, q0, hargs, rfl, rfl, h0, r0⟩ := trodAll_cons hA
  obtain ⟨v1, vs1, d1, ds1, p1, q1, rfl, rfl, rfl, h1, r1⟩ := trodAll_cons r0
  obtain ⟨v2, vs2, d2, ds2, p2, q2, rfl, rfl, rfl, h2, r2⟩ := trodAll_cons r1
  obtain ⟨rfl, rfl, rfl⟩ := trodAll_nil r2
  obtain rfl : args = #[v0, v1, v2] := by cases args; simp_all
  obtain ⟨rfl, rfl⟩ := trodVars_none hV
  obtain ⟨a0, rfl, rfl, rfl, w0⟩ := open_int Try.underlying3 (hval 0 3 v0 rfl rfl) h0
  obtain ⟨a1, rfl, rfl, rfl, w1⟩ := open_int Try.underlying3 (hval 1 3 v1 rfl rfl) h1
  obtain ⟨a2, rfl, rfl, rfl, w2⟩ := open_int Try.underlying3 (hval 2 3 v2 rfl rfl) h2
  clear hA0 hval0
  refine (walk W a0 a1 a2 w0 w1 w2).mono fun e W' ⟨he, bel⟩ => ?_
  subst he
  exact ⟨_, rfl, _, _, _, [], _, [], hW', trodAll_mk1 (shut_bool Try.underlying4 _), (trodAll_cons_mk (shut_int Try.underlying3 w0) (trodAll_cons_mk (shut_int Try.underlying3 w1) (trodAll_cons_mk (shut_int Try.underlying3 w2) trodAll_mk0))), rfl, bel.frame _, fun h => by cases h⟩

theorem over : Rows.nonceEndsRow.holds Try.pinned (OpenSpec.ofChange Rows.nonceEndsSpec) :=
  OpenClaim.holds_of_wide 7 Try.f7 rfl rfl rfl rfl rfl rfl rfl ⟨rfl, rfl, rfl, rfl, rfl⟩ rfl rfl rfl rfl rfl (by kernel_rfl) Try.func7 (by kernel_rfl)
    (of_decide_eq_true (by kernel_rfl)) (by unfold Func.isWrapper; first | (rw [if_pos (by decide +kernel)]; kernel_rfl) | (rw [if_neg (by decide +kernel)]; exact ⟨rfl, rfl⟩))
    (fun os started H enc _ => lifted os started H enc)

theorem proved : Rows.NonceEndsSaid := over
end Go.Proofs.Ythmpkalalceapaa.nonceEnds
namespace Go.Proofs.Ythmpkalalceapaa
theorem nonceEnds_holds : Rows.NonceEndsSaid := nonceEnds.proved
#print axioms nonceEnds_holds
end Go.Proofs.Ythmpkalalceapaa
