/-
  Proved: for every height, every capacity, any paths, any items and every leaf the law EvictPlans returns true; no condition.
-/
import Derived.Test.YtkaohjlnlgennaaPns
namespace Go.Proofs.Ytkaohjlnlgennaa.evictPlans
open Go.ChangeShapes Go.WideShapes Go.ChangeAt Go.RowKit Go.Proofs.Ytkaohjlnlgennaa.hp Go.Proofs.Ytkaohjlnlgennaa.tm Go.Proofs.Ytkaohjlnlgennaa.ev Go.Proofs.Ytkaohjlnlgennaa.st
set_option linter.unusedVariables false

theorem walk (w : World) (a0 a1 : Int) (a2 : Option Addr) (l2 c2 : Nat) (z2 : List Int) (a3 : Option Addr) (l3 c3 : Nat) (z3 : List (Int × Int)) (a4 : Int) (w0 : (Lit.int .i64 a0).wf = true) (w1 : (Lit.int .i64 a1).wf = true) (A2 : Lies (Old w) w (.slice a2 l2 c2) (z2.map (Value.int .i64))) (k2 : l2 ≤ c2) (A3 : z3.length = l3 ∧ Lie (Old w) w (.slice a3 l3 c3) z3.length (z3.flatMap f2)) (k3 : l3 ≤ c3 ∧ c3 ≤ maxLen) (w4 : (Lit.int .i64 a4).wf = true) :
    Calls Try.prog 3 #[.int .i64 a0, .int .i64 a1, .slice a2 l2 c2, .slice a3 l3 c3, .int .i64 a4] w fun e w' => e = .returned (.bool true) ∧ Below w.heap.size w w' := by
  obtain ⟨rfl, A3⟩ := A3
  obtain ⟨a, c, hv, _⟩ := A2.slice
  rw [List.length_map] at hv
  cases hv
  by_cases hh : 60 < z2.length
  · exact plans.many1 w a0 a1 a4 a2 _ c2 a3 _ c3 hh
  · by_cases hk : 60 < z3.length
    · exact plans.many2 w a0 a1 a4 a2 _ c2 a3 _ c3 (by omega) hk
    · exact plans.yes w a0 a1 a4 a2 c2 a3 c3 z2 z3 A2 A3 (by omega) (by omega)

theorem own : ownKnob Try.prog.godebug = none := by kernel_rfl
theorem laidOut : laidOutB Try.prog = true := by kernel_rfl

set_option maxRecDepth 100000 in
theorem lifted (os : Os) (started : os.Started) (H : Type) (enc : TypeId × Value → H) :
    ReturnsInHanded {} Try.checked os 3 .any (Rows.evictPlansSpec.pre6 enc Try.prog Try.f3 Rows.evictPlansRow.domain false) (Rows.evictPlansSpec.post enc Try.prog Try.f3 false true false false) := by
  refine returnsInHanded_of_change (C := Try.checked) own started (by kernel_rfl) Try.func3
    (ChangeSpec.witness6 (enc := enc) (C := Try.checked) false ⟨#[], #[.int .i64 0, .int .i64 0, .slice none 0 0, .slice none 0 0, .int .i64 0], []⟩ 8 (by kernel_rfl) (by kernel_rfl) (by kernel_rfl) (by kernel_rfl)) ?_
  intro W base args ds gs before hval0 hW hcnd _
  have hval : ∀ (j : Nat) t v, Try.f3.params[j]? = some t → args[j]? = some v → Value.okWide Try.prog W .any base t v := hval0
  have hW' := hW
  obtain ⟨p, q, hA0, hV, rfl, hfz, hnd⟩ := hW
  have hA : DataW.TrodAll enc Try.prog W 0 (fun _ => true) true Try.f3.params.toList args.toList ds p := hA0
  rw [Try.params3] at hA hval
  obtain ⟨v0, vs0, d0, ds0, p0, q0, hargs, rfl, rfl, h0, r0⟩ := trodAll_cons hA
  obtain ⟨v1, vs1, d1, ds1, p1, q1, rfl, rfl, rfl, h1, r1⟩ := trodAll_cons r0
  obtain ⟨v2, vs2, d2, ds2, p2, q2, rfl, rfl, rfl, h2, r2⟩ := trodAll_cons r1
  obtain ⟨v3, vs3, d3, ds3, p3, q3, rfl, rfl, rfl, h3, r3⟩ := trodAll_cons r2
  obtain ⟨v4, vs4, d4, ds4, p4, q4, rfl, rfl, rfl, h4, r4⟩ := trodAll_cons r3
  obtain ⟨rfl, rfl, rfl⟩ := trodAll_nil r4
  obtain rfl : args = #[v0, v1, v2, v3, v4] := by cases args; simp_all
  obtain ⟨rfl, rfl⟩ := trodVars_none hV
  obtain ⟨a0, rfl, rfl, rfl, w0⟩ := open_int Try.underlying3 (hval 0 3 v0 rfl rfl) h0
  obtain ⟨a1, rfl, rfl, rfl, w1⟩ := open_int Try.underlying3 (hval 1 3 v1 rfl rfl) h1
  obtain ⟨a2, len2, cap2, rfl⟩ := okWide_slice Try.underlying22 (hval 2 22 v2 rfl rfl)
  have k2 := h2
  have lt2 : ∀ x ∈ p2, x.block < W.heap.size := by obtain ⟨m, hm⟩ := k2; exact DataW.trod_lt m _ _ _ hm
  have c2 : len2 ≤ cap2 := by obtain ⟨m, hm⟩ := k2; exact (open_cap Try.underlying22 hm).1
  obtain ⟨z2, w2⟩ := (by obtain ⟨fuel, hf⟩ := h2; exact open_nums hf : ∃ z : List Int, Lies (Old W) W (.slice a2 len2 cap2) (z.map (Value.int .i64)))
  obtain ⟨a3, len3, cap3, rfl⟩ := okWide_slice Try.underlying23 (hval 3 23 v3 rfl rfl)
  have k3 := h3
  have lt3 : ∀ x ∈ p3, x.block < W.heap.size := by obtain ⟨m, hm⟩ := k3; exact DataW.trod_lt m _ _ _ hm
  have c3 : len3 ≤ cap3 ∧ cap3 ≤ maxLen := by obtain ⟨m, hm⟩ := k3; exact open_cap Try.underlying23 hm
  obtain ⟨z3, w3⟩ := (by obtain ⟨fuel, hf⟩ := h3; exact open_places hf : ∃ z : List (Int × Int), z.length = len3 ∧ Lie (Old W) W (.slice a3 len3 cap3) z.length (z.flatMap f2))
  obtain ⟨a4, rfl, rfl, rfl, w4⟩ := open_int Try.underlying3 (hval 4 3 v4 rfl rfl) h4
  clear hA0 hval0
  refine (walk W a0 a1 a2 len2 cap2 z2 a3 len3 cap3 z3 a4 w0 w1 w2 c2 w3 c3 w4).mono fun e W' ⟨he, bel⟩ => ?_
  subst he
  exact ⟨_, rfl, _, _, _, [], _, [], hW', trodAll_mk1 (shut_bool Try.underlying4 _), (trodAll_cons_mk (shut_int Try.underlying3 w0) (trodAll_cons_mk (shut_int Try.underlying3 w1) (trodAll_cons_mk (Below.trod laidOut (by kernel_rfl) (of_decide_eq_true (by kernel_rfl)) k2 bel lt2) (trodAll_cons_mk (Below.trod laidOut (by kernel_rfl) (of_decide_eq_true (by kernel_rfl)) k3 bel lt3) (trodAll_cons_mk (shut_int Try.underlying3 w4) trodAll_mk0))))), rfl, bel.frame _, fun h => by cases h⟩

theorem over : Rows.evictPlansRow.holds Try.pinned (OpenSpec.ofChange Rows.evictPlansSpec) :=
  OpenClaim.holds_of_wide 3 Try.f3 rfl rfl rfl rfl rfl rfl rfl ⟨rfl, rfl, rfl, rfl, rfl⟩ rfl rfl rfl rfl rfl (by kernel_rfl) Try.func3 (by kernel_rfl)
    (of_decide_eq_true (by kernel_rfl)) (by unfold Func.isWrapper; first | (rw [if_pos (by decide +kernel)]; kernel_rfl) | (rw [if_neg (by decide +kernel)]; exact ⟨rfl, rfl⟩))
    (fun os started H enc _ => lifted os started H enc)

theorem proved : Rows.EvictPlansSaid := over
end Go.Proofs.Ytkaohjlnlgennaa.evictPlans
namespace Go.Proofs.Ytkaohjlnlgennaa
theorem evictPlans_holds : Rows.EvictPlansSaid := evictPlans.proved
#print axioms evictPlans_holds
end Go.Proofs.Ytkaohjlnlgennaa
