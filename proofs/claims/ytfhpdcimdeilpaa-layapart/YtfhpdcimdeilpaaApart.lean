/-
  Proved: for every configuration and any whole number the law LayApart returns true, never panics, and changes nothing that was there; no condition.
-/
import Derived.Test.YtfhpdcimdeilpaaCfo
import Derived.Test.YtfhpdcimdeilpaaAp
namespace Go.Proofs.Ytfhpdcimdeilpaa.layApart
open Go.ChangeShapes Go.WideShapes Go.ChangeAt Go.RowKit Go.Proofs.Ytfhpdcimdeilpaa.hp Go.Proofs.Ytfhpdcimdeilpaa.st Go.Proofs.Ytfhpdcimdeilpaa.tells
set_option linter.unusedVariables false
set_option linter.unusedSimpArgs false

theorem intC_natC {I : Ic} {len : Nat} (h : okI I len) : intC (natC I) = I := by
  obtain ⟨a0, a1, a2, a3, a4, a5, a6, a7, a8, a9, a10⟩ := h
  unfold intC natC
  obtain ⟨i0, i1, i2, i3, i4, i5, i6, i7, i8, i9⟩ := I
  simp only at *
  rw [Int.toNat_of_nonneg a0.1, Int.toNat_of_nonneg (by omega : 0 ≤ i1), Int.toNat_of_nonneg (by omega : 0 ≤ i2), Int.toNat_of_nonneg (by omega : 0 ≤ i3), Int.toNat_of_nonneg (by omega : 0 ≤ i4), Int.toNat_of_nonneg (by omega : 0 ≤ i5), Int.toNat_of_nonneg a6.1, Int.toNat_of_nonneg (by omega : 0 ≤ i7), Int.toNat_of_nonneg (by omega : 0 ≤ i8), Int.toNat_of_nonneg (by omega : 0 ≤ i9)]

theorem walk (w : World) (I : Ic) (a : Option Addr) (len c : Nat) (A : Nat → Option Addr) (C : Nat → Nat) (Z : Nat → List Int) (i : Int) (R : Rws w a len A C Z) (hlen : len ≤ maxLen) (wi : (Lit.int .i64 i).wf = true) : Calls Try.prog 4 #[cfgI I (.slice a len c), .int .i64 i] w fun e w' => e = .returned (.bool true) ∧ Below w.heap.size w w' := by
  by_cases hM : mayP I len Z
  · have hK := natC_ok hM.1
    have hI : mayP (intC (natC I)) len Z := by rw [intC_natC hM.1]; exact hM
    rw [natC_val hM.1]
    exact apart.all waysL w (natC I) hK a len c A C Z R hlen hI i
  · exact apart.nay waysL w I a len c A C Z R hlen hM i

theorem own : ownKnob Try.prog.godebug = none := by kernel_rfl
theorem laidOut : laidOutB Try.prog = true := by kernel_rfl

set_option maxRecDepth 100000 in
theorem lifted (os : Os) (started : os.Started) (H : Type) (enc : TypeId × Value → H) :
    ReturnsInHanded {} Try.checked os 4 .any (Rows.layApartSpec.pre6 enc Try.prog Try.f4 Rows.layApartRow.domain false) (Rows.layApartSpec.post enc Try.prog Try.f4 false true false false) := by
  refine returnsInHanded_of_change (C := Try.checked) own started (by kernel_rfl) Try.func4
    (ChangeSpec.witness6 (enc := enc) (C := Try.checked) false ⟨#[], #[.agg #[.int .i64 0, .int .i64 0, .int .i64 0, .int .i64 0, .int .i64 0, .int .i64 0, .int .i64 0, .int .i64 0, .int .i64 0, .int .i64 0, .slice none 0 0], .int .i64 0], []⟩ 8 (by kernel_rfl) (by kernel_rfl) (by kernel_rfl) (by kernel_rfl)) ?_
  intro W base args ds gs before hval0 hW hcnd _
  have hval : ∀ (j : Nat) t v, Try.f4.params[j]? = some t → args[j]? = some v → Value.okWide Try.prog W .any base t v := hval0
  have hW' := hW
  obtain ⟨p, q, hA0, hV, rfl, hfz, hnd⟩ := hW
  have hA : DataW.TrodAll enc Try.prog W 0 (fun _ => true) true Try.f4.params.toList args.toList ds p := hA0
  rw [Try.params4] at hA hval
  obtain ⟨v0, vs0, d0, ds0, p0, q0, hargs, rfl, rfl, h0, r0⟩ := trodAll_cons hA
  obtain ⟨v1, vs1, d1, ds1, p1, q1, rfl, rfl, rfl, h1, r1⟩ := trodAll_cons r0
  obtain ⟨rfl, rfl, rfl⟩ := trodAll_nil r1
  obtain rfl : args = #[v0, v1] := by cases args; simp_all
  obtain ⟨rfl, rfl⟩ := trodVars_none hV
  have k0 := h0
  have lt0 : ∀ x ∈ p0, x.block < W.heap.size := by obtain ⟨m, hm⟩ := k0; exact DataW.trod_lt m _ _ _ hm
  obtain ⟨I0, a0, len0, cap0, A0, C0, z0, rfl, b0, c0, w0⟩ := open_config (hval 0 24 v0 rfl rfl) h0
  obtain ⟨a1, rfl, rfl, rfl, w1⟩ := open_int Try.underlying3 (hval 1 3 v1 rfl rfl) h1
  clear hA0 hval0
  refine (walk W I0 a0 len0 cap0 A0 C0 z0 a1 w0 (Nat.le_trans b0 c0) w1).mono fun e W' ⟨he, bel⟩ => ?_
  subst he
  exact ⟨_, rfl, _, _, _, [], _, [], hW', trodAll_mk1 (shut_bool Try.underlying4 _), (trodAll_cons_mk (Below.trod laidOut (by kernel_rfl) (of_decide_eq_true (by kernel_rfl)) k0 bel lt0) (trodAll_cons_mk (shut_int Try.underlying3 w1) trodAll_mk0)), rfl, bel.frame _, fun h => by cases h⟩

theorem over : Rows.layApartRow.holds Try.pinned (OpenSpec.ofChange Rows.layApartSpec) :=
  OpenClaim.holds_of_wide 4 Try.f4 rfl rfl rfl rfl rfl rfl rfl ⟨rfl, rfl, rfl, rfl, rfl⟩ rfl rfl rfl rfl rfl (by kernel_rfl) Try.func4 (by kernel_rfl)
    (of_decide_eq_true (by kernel_rfl)) (by unfold Func.isWrapper; first | (rw [if_pos (by decide +kernel)]; kernel_rfl) | (rw [if_neg (by decide +kernel)]; exact ⟨rfl, rfl⟩))
    (fun os started H enc _ => lifted os started H enc)

theorem proved : Rows.LayApartSaid := over
end Go.Proofs.Ytfhpdcimdeilpaa.layApart
namespace Go.Proofs.Ytfhpdcimdeilpaa
theorem layApart_holds : Rows.LayApartSaid := layApart.proved
#print axioms layApart_holds
end Go.Proofs.Ytfhpdcimdeilpaa
