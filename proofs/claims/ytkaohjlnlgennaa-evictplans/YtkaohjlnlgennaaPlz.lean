/- Plan, whatever it is asked. -/
import Derived.Test.YtkaohjlnlgennaaPla
namespace Go.Proofs.Ytkaohjlnlgennaa.st
open Go.ChangeShapes Go.WideShapes Go.ChangeAt Go.RowKit Go.Proofs.Ytkaohjlnlgennaa.hp Go.Proofs.Ytkaohjlnlgennaa.tm Go.Proofs.Ytkaohjlnlgennaa.ev
set_option linter.unusedVariables false
set_option linter.unusedSimpArgs false

/-- May they be planned? -/
def mayB (h z : Int) (ls : List Int) (its : List (Int × Int)) : Bool := mayE h z ls its && decide (ids its).Nodup

/-- What Plan answers. -/
def planA (h z : Int) (ls : List Int) (its : List (Int × Int)) : List (Int × List Int) × List Int :=
  if mayB h z ls its = true then ((uni h ls).map fun b => (b, (planF h z ls its).1 b), (planF h z ls its).2) else ([], [])

theorem mayB_mayP {h z : Int} {ls : List Int} {its : List (Int × Int)} (hm : mayB h z ls its = true) : mayP h z ls its := by
  unfold mayB at hm
  simp only [Bool.and_eq_true, decide_eq_true_eq] at hm
  exact mayP_of hm.1 hm.2

theorem plan_none1 {J K : Nat → Prop} (w : World) (h z : Int) (v iv : Value) (ls : List Int) (its : List (Int × Int)) (hv : Lies J w v (ls.map (Value.int .i64))) (hi : Lie K w iv its.length (its.flatMap f2)) (hl : ls.length ≤ 100000) (hil : its.length ≤ 100000)
    (hm : mayE h z ls its = false) :
    Calls Try.prog 10 #[.int .i64 h, .int .i64 z, v, iv] w fun e w' => e = .returned (.tuple #[.slice none 0 0, .slice none 0 0]) ∧ Chg no w w' := by
  have HM : Hid (∀ W, Chg no w W → Calls Try.prog 26 #[.int .i64 h, .int .i64 z, v, iv] W fun e w' => e = .returned (.bool false) ∧ Chg no W w') := fun W k => by
    have := mayPlan_any W h z v iv ls its (hv.chg k (fun _ _ h => h)) (hi.same k) hl hil
    rw [hm] at this
    exact this
  clear hv hi
  refine callsIn_wide.1 (callsIn_of_wp_marks (n := 3) Try.func10 rfl trivial (wpIn_wide.2 ?_) rfl)
  simp only [Try.ntmps10, List.size_toArray, List.length_cons, List.length_nil, Nat.reduceAdd, Nat.reduceSub, Array.replicate_succ, Array.replicate_zero, List.push_toArray, List.append_toArray, List.nil_append, List.cons_append]
  have k1 : Chg no w ((w.alloc (.cells #[.int .i64 h] 3)).alloc (.cells #[.int .i64 z] 3)) := ((Chg.refl no w).alloc _).alloc _
  go_wp2_with fail
  refine (HM.out _ k1).mono ?_
  rintro e w1 ⟨rfl, c1⟩
  have K1 : Hid (Chg no w w1) := k1.then c1
  clear k1 c1 HM
  go_wp2_with fail
  refine ⟨.tuple #[.slice none 0 0, .slice none 0 0], ?_, rfl, K1.out⟩
  have hres : Try.f10.results = #[.tmp 8, .tmp 9] := by kernel_rfl
  simp only [results, hres]
  go_simp

theorem plan_none2 {J K : Nat → Prop} (w : World) (h z : Int) (v iv : Value) (ls : List Int) (its : List (Int × Int)) (hv : Lies J w v (ls.map (Value.int .i64))) (hi : Lie K w iv its.length (its.flatMap f2)) (hl : ls.length ≤ 100000) (hil : its.length ≤ 100000)
    (hm : mayE h z ls its = true) (hn : ¬ (ids its).Nodup) :
    Calls Try.prog 10 #[.int .i64 h, .int .i64 z, v, iv] w fun e w' => e = .returned (.tuple #[.slice none 0 0, .slice none 0 0]) ∧ Chg no w w' := by
  have HM : Hid (∀ W, Chg no w W → Calls Try.prog 26 #[.int .i64 h, .int .i64 z, v, iv] W fun e w' => e = .returned (.bool true) ∧ Chg no W w') := fun W k => by
    have := mayPlan_any W h z v iv ls its (hv.chg k (fun _ _ h => h)) (hi.same k) hl hil
    rw [hm] at this
    exact this
  have HB : Hid (∀ W, Chg no w W → Calls Try.prog 27 #[iv] W fun e w' => ∃ v' ds, e = .returned v' ∧ ds.Perm its ∧ (ids ds).Pairwise (· ≤ ·) ∧ NewR 35 2 f2 W ds v' w') := fun W k => byID_any iv its W (hi.same k) hil
  clear hv hi
  refine callsIn_wide.1 (callsIn_of_wp_marks (n := 3) Try.func10 rfl trivial (wpIn_wide.2 ?_) rfl)
  simp only [Try.ntmps10, List.size_toArray, List.length_cons, List.length_nil, Nat.reduceAdd, Nat.reduceSub, Array.replicate_succ, Array.replicate_zero, List.push_toArray, List.append_toArray, List.nil_append, List.cons_append]
  have k1 : Chg no w ((w.alloc (.cells #[.int .i64 h] 3)).alloc (.cells #[.int .i64 z] 3)) := ((Chg.refl no w).alloc _).alloc _
  go_wp2_with fail
  refine (HM.out _ k1).mono ?_
  rintro e w1 ⟨rfl, c1⟩
  have K1 : Hid (Chg no w w1) := k1.then c1
  clear k1 c1 HM
  go_wp2_with fail
  refine (HB.out _ K1.out).mono ?_
  rintro e w2 ⟨v2, ds, rfl, dp, dsrt, N2⟩
  obtain ⟨a, c, rfl⟩ := N2.shape
  have hdl : ds.length = its.length := dp.length_eq
  have hdn : ¬ (ids ds).Nodup := fun e => hn ((List.Perm.nodup_iff (dp.map _)).1 e)
  have HT : Hid (∀ W, Chg no w2 W → Calls Try.prog 28 #[.slice a ds.length c] W fun e w' => e = .returned (.bool true) ∧ Chg no W w') := fun W k => by
    have := anyTwice_any W (.slice a ds.length c) ds (N2.lie.same k) (by rw [hdl]; exact hil) dsrt
    rw [decide_eq_false hdn] at this
    exact this
  have K2 : Hid (Chg no w w2) := K1.out.then N2.2
  obtain ⟨n, hnn⟩ : ∃ n, ds.length = n := ⟨_, rfl⟩
  rw [hnn] at HT ⊢
  clear HB N2 hdl hnn hdn K1
  go_wp2_with fail
  refine (HT.out _ ((Chg.refl no w2).alloc _)).mono ?_
  rintro e w3 ⟨rfl, c3⟩
  have K3 : Hid (Chg no w w3) := K2.out.then (((Chg.refl no w2).alloc _).then c3)
  clear HT c3 K2
  go_wp2_with fail
  refine ⟨.tuple #[.slice none 0 0, .slice none 0 0], ?_, rfl, K3.out⟩
  have hres : Try.f10.results = #[.tmp 8, .tmp 9] := by kernel_rfl
  simp only [results, hres]
  go_simp

/-- Plan answers the plan, whatever it is asked. -/
theorem plan_any {J K : Nat → Prop} (w : World) (h z : Int) (v iv : Value) (ls : List Int) (its : List (Int × Int)) (hv : Lies J w v (ls.map (Value.int .i64))) (hi : Lie K w iv its.length (its.flatMap f2)) (hl : ls.length ≤ 100000) (hil : its.length ≤ 100000) :
    Calls Try.prog 10 #[.int .i64 h, .int .i64 z, v, iv] w fun e w' => ∃ fv lv xs, e = .returned (.tuple #[fv, lv]) ∧ Fls w' fv xs ∧ abs xs = (planA h z ls its).1 ∧ Lies (Old w') w' lv ((planA h z ls its).2.map (Value.int .i64)) ∧ Chg no w w' := by
  have none : (planA h z ls its = ([], [])) → (Calls Try.prog 10 #[.int .i64 h, .int .i64 z, v, iv] w fun e w' => e = .returned (.tuple #[.slice none 0 0, .slice none 0 0]) ∧ Chg no w w') →
      Calls Try.prog 10 #[.int .i64 h, .int .i64 z, v, iv] w fun e w' => ∃ fv lv xs, e = .returned (.tuple #[fv, lv]) ∧ Fls w' fv xs ∧ abs xs = (planA h z ls its).1 ∧ Lies (Old w') w' lv ((planA h z ls its).2.map (Value.int .i64)) ∧ Chg no w w' := by
    intro e c
    rw [e]
    refine c.mono ?_
    rintro _ w' ⟨rfl, k⟩
    exact ⟨_, _, [], rfl, Fls.nil w', rfl, .inl ⟨rfl, rfl⟩, k⟩
  cases hm : mayE h z ls its
  · exact none (by unfold planA mayB; rw [hm]; rfl) (plan_none1 w h z v iv ls its hv hi hl hil hm)
  · by_cases hn : (ids its).Nodup
    · have e : planA h z ls its = ((uni h ls).map fun b => (b, (planF h z ls its).1 b), (planF h z ls its).2) := by
        unfold planA mayB
        rw [hm, decide_eq_true hn]
        rfl
      rw [e]
      exact plan_some w h z v iv ls its hv hi hl hil hm hn
    · exact none (by unfold planA mayB; rw [hm, decide_eq_false hn]; rfl) (plan_none2 w h z v iv ls its hv hi hl hil hm hn)

end Go.Proofs.Ytkaohjlnlgennaa.st
