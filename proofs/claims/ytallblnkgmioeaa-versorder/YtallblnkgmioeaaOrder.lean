/-
  Proved: for every number, any list of buckets and every place to cut it the law VersOrder returns true; no condition.
-/
import Derived.Test.YtallblnkgmioeaaOrn
import Derived.Test.YtallblnkgmioeaaOrq
import Derived.Test.YtallblnkgmioeaaWys
import Derived.Test.YtallblnkgmioeaaArgs
namespace Go.Proofs.Ytallblnkgmioeaa.versOrder
open Go.ChangeShapes Go.WideShapes Go.ChangeAt Go.RowKit Go.Proofs.Ytallblnkgmioeaa.hp Go.Proofs.Ytallblnkgmioeaa.bt Go.Proofs.Ytallblnkgmioeaa.st
set_option linter.unusedVariables false

theorem walk (w : World) (n : Int) (a : Option Addr) (l c : Nat) (z : List Int) (cut : Int) (w0 : (Lit.int .i64 n).wf = true) (A : Lies (Old w) w (.slice a l c) (z.map (Value.int .i64))) (k : l ≤ c) (w2 : (Lit.int .i64 cut).wf = true) :
    Calls Try.prog 6 #[.int .i64 n, .slice a l c, .int .i64 cut] w fun e w' => e = .returned (.bool true) ∧ Below w.heap.size w w' := by
  have A0 := A
  obtain ⟨x, y, hv, _⟩ := A.slice
  rw [List.length_map] at hv
  cases hv
  by_cases hh : 200 < z.length
  · exact order.many1 waysB w n cut a _ c hh
  by_cases h0 : cut < 0
  · exact order.many2 waysB w n cut a _ c (by omega) h0
  by_cases h1 : (z.length : Int) < cut
  · exact order.many3 waysB w n cut a _ c (by omega) h1
  obtain ⟨u, rfl⟩ : ∃ u : Nat, cut = u := ⟨cut.toNat, by omega⟩
  by_cases hd : z.Nodup
  rotate_left
  · exact order.many4 waysB w n u a c z A k (by omega) (by omega) hd
  cases hm : mayN n
  · exact order.none1 waysB w n u a c z A k (by omega) (by omega) hd hm
  have hn : 1 ≤ n ∧ n ≤ 127 := of_decide_eq_true hm
  obtain ⟨m, rfl⟩ : ∃ m : Nat, n = m := ⟨n.toNat, by omega⟩
  rcases A0 with ⟨hv, hz⟩ | ⟨x, cap, hv, _, _⟩
  · have hz' : z = [] := by simpa using hz
    subst hz'
    cases hv
    have hu : u = 0 := by simpa using h1
    subst hu
    exact order.restN waysB w m hm
  · simp only [Value.slice.injEq] at hv
    obtain ⟨rfl, _, _⟩ := hv
    by_cases hc : u < c
    · exact order.restP waysB w m u x c z A k hc (by omega) (by omega) hd hm
    · exact order.restQ waysB w m u x c z A k hc (by omega) (by omega) hd hm

theorem own : ownKnob Try.prog.godebug = none := by kernel_rfl
theorem laidOut : laidOutB Try.prog = true := by kernel_rfl

set_option maxRecDepth 100000 in
theorem lifted (os : Os) (started : os.Started) (H : Type) (enc : TypeId × Value → H) :
    ReturnsInHanded {} Try.checked os 6 .any (Rows.versOrderSpec.pre6 enc Try.prog Try.f6 Rows.versOrderRow.domain false) (Rows.versOrderSpec.post enc Try.prog Try.f6 false true false false) := by
  refine returnsInHanded_of_change (C := Try.checked) own started (by kernel_rfl) Try.func6
    (ChangeSpec.witness6 (enc := enc) (C := Try.checked) false ⟨#[], #[.int .i64 0, .slice none 0 0, .int .i64 0], []⟩ 8 (by kernel_rfl) (by kernel_rfl) (by kernel_rfl) (by kernel_rfl)) ?_
  intro W base args ds gs before hval0 hW hcnd _
  have hval : ∀ (j : Nat) t v, Try.f6.params[j]? = some t → args[j]? = some v → Value.okWide Try.prog W .any base t v := hval0
  have hW' := hW
  obtain ⟨p, q, hA0, hV, rfl, hfz, hnd⟩ := hW
  have hA : DataW.TrodAll enc Try.prog W 0 (fun _ => true) true Try.f6.params.toList args.toList ds p := hA0
  rw [Try.params6] at hA hval
  obtain ⟨v0, vs0, d0, ds0, p0, q0, hargs, rfl, rfl, h0, r0⟩ := trodAll_cons hA
  obtain ⟨v1, vs1, d1, ds1, p1, q1, rfl, rfl, rfl, h1, r1⟩ := trodAll_cons r0
  obtain ⟨v2, vs2, d2, ds2, p2, q2, rfl, rfl, rfl, h2, r2⟩ := trodAll_cons r1
  obtain ⟨rfl, rfl, rfl⟩ := trodAll_nil r2
  obtain rfl : args = #[v0, v1, v2] := by cases args; simp_all
  obtain ⟨rfl, rfl⟩ := trodVars_none hV
  obtain ⟨a0, rfl, rfl, rfl, w0⟩ := open_int Try.underlying3 (hval 0 3 v0 rfl rfl) h0
  obtain ⟨a1, len1, cap1, rfl⟩ := okWide_slice Try.underlying24 (hval 1 24 v1 rfl rfl)
  have k1 := h1
  have lt1 : ∀ x ∈ p1, x.block < W.heap.size := by obtain ⟨m, hm⟩ := k1; exact DataW.trod_lt m _ _ _ hm
  have c1 : len1 ≤ cap1 := by obtain ⟨m, hm⟩ := k1; exact (open_cap Try.underlying24 hm).1
  obtain ⟨z1, w1⟩ := (by obtain ⟨fuel, hf⟩ := h1; exact open_nums hf : ∃ z : List Int, Lies (Old W) W (.slice a1 len1 cap1) (z.map (Value.int .i64)))
  obtain ⟨a2, rfl, rfl, rfl, w2⟩ := open_int Try.underlying3 (hval 2 3 v2 rfl rfl) h2
  clear hA0 hval0
  refine (walk W a0 a1 len1 cap1 z1 a2 w0 w1 c1 w2).mono fun e W' ⟨he, bel⟩ => ?_
  subst he
  exact ⟨_, rfl, _, _, _, [], _, [], hW', trodAll_mk1 (shut_bool Try.underlying4 _), (trodAll_cons_mk (shut_int Try.underlying3 w0) (trodAll_cons_mk (Below.trod laidOut (by kernel_rfl) (of_decide_eq_true (by kernel_rfl)) k1 bel lt1) (trodAll_cons_mk (shut_int Try.underlying3 w2) trodAll_mk0))), rfl, bel.frame _, fun h => by cases h⟩

theorem over : Rows.versOrderRow.holds Try.pinned (OpenSpec.ofChange Rows.versOrderSpec) :=
  OpenClaim.holds_of_wide 6 Try.f6 rfl rfl rfl rfl rfl rfl rfl ⟨rfl, rfl, rfl, rfl, rfl⟩ rfl rfl rfl rfl rfl (by kernel_rfl) Try.func6 (by kernel_rfl)
    (of_decide_eq_true (by kernel_rfl)) (by unfold Func.isWrapper; first | (rw [if_pos (by decide +kernel)]; kernel_rfl) | (rw [if_neg (by decide +kernel)]; exact ⟨rfl, rfl⟩))
    (fun os started H enc _ => lifted os started H enc)

theorem proved : Rows.VersOrderSaid := over
end Go.Proofs.Ytallblnkgmioeaa.versOrder
namespace Go.Proofs.Ytallblnkgmioeaa
theorem versOrder_holds : Rows.VersOrderSaid := versOrder.proved
#print axioms versOrder_holds
end Go.Proofs.Ytallblnkgmioeaa
