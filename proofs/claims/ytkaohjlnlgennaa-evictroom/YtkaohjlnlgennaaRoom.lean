/-
  Proved: for every height, any paths and any items the law EvictRoom returns true; no condition.
-/
import Derived.Test.YtkaohjlnlgennaaRom
namespace Go.Proofs.Ytkaohjlnlgennaa.evictRoom
open Go.ChangeShapes Go.WideShapes Go.ChangeAt Go.RowKit Go.Proofs.Ytkaohjlnlgennaa.hp Go.Proofs.Ytkaohjlnlgennaa.tm Go.Proofs.Ytkaohjlnlgennaa.ev Go.Proofs.Ytkaohjlnlgennaa.st
set_option linter.unusedVariables false

theorem walk (w : World) (a0 : Int) (a2 : Option Addr) (l2 c2 : Nat) (z2 : List Int) (a3 : Option Addr) (l3 c3 : Nat) (z3 : List (Int × Int)) (w0 : (Lit.int .i64 a0).wf = true) (A2 : Lies (Old w) w (.slice a2 l2 c2) (z2.map (Value.int .i64))) (k2 : l2 ≤ c2) (A3 : z3.length = l3 ∧ Lie (Old w) w (.slice a3 l3 c3) z3.length (z3.flatMap f2)) (k3 : l3 ≤ c3 ∧ c3 ≤ maxLen) :
    Calls Try.prog 6 #[.int .i64 a0, .slice a2 l2 c2, .slice a3 l3 c3] w fun e w' => e = .returned (.bool true) ∧ Below w.heap.size w w' := by
  obtain ⟨rfl, A3⟩ := A3
  obtain ⟨a, c, hv, _⟩ := A2.slice
  rw [List.length_map] at hv
  cases hv
  by_cases hh : 60 < z2.length
  · exact room.many1 w a0 a2 _ c2 a3 _ c3 hh
  · by_cases h1 : 0 < z2.length
    · by_cases hk : 4 < z3.length
      · exact room.many2 w a0 a2 _ c2 a3 _ c3 (by omega) h1 hk
      · cases hm : mayB a0 4 z2 z3
        · exact room.not w a0 a2 c2 a3 c3 z2 z3 A2 A3 (by omega) h1 (by omega) hm
        · exact room.yes w a0 a2 c2 a3 c3 z2 z3 A2 A3 (by omega) h1 (by omega) hm
    · have e : z2.length = 0 := by omega
      rw [e]
      exact room.none1 w a0 a2 c2 a3 _ c3

theorem own : ownKnob Try.prog.godebug = none := by kernel_rfl
theorem laidOut : laidOutB Try.prog = true := by kernel_rfl

set_option maxRecDepth 100000 in
theorem lifted (os : Os) (started : os.Started) (H : Type) (enc : TypeId × Value → H) :
    ReturnsInHanded {} Try.checked os 6 .any (Rows.evictRoomSpec.pre6 enc Try.prog Try.f6 Rows.evictRoomRow.domain false) (Rows.evictRoomSpec.post enc Try.prog Try.f6 false true false false) := by
  refine returnsInHanded_of_change (C := Try.checked) own started (by kernel_rfl) Try.func6
    (ChangeSpec.witness6 (enc := enc) (C := Try.checked) false ⟨#[], #[.int .i64 0, .slice none 0 0, .slice none 0 0], []⟩ 8 (by kernel_rfl) (by kernel_rfl) (by kernel_rfl) (by kernel_rfl)) ?_
  intro W base args ds gs before hval0 hW hcnd _
  have hval : ∀ (j : Nat) t v, Try.f6.params[j]? = some t → args[j]? = some v → Value.okWide Try.prog W .any base t v := hval0
  have hW' := hW
  obtain ⟨p, q, hA0, hV, rfl, hfz, hnd⟩ := hW
  have hA : DataW.TrodAll enc Try.prog W 0 (fun _ => true) true Try.f6.params.toList args.toList ds p := hA0
  rw [Try.params6] at hA hval
  obtain ⟨v0, vs0, d0, ds0, p0, q0, hargs, rfl, rfl, h0, r0⟩ := trodAll_cons hA
  obtain ⟨v1, vs1, d1, ds1, p1, q1, rfl, rfl, rfl, h1, r1⟩ := trodAll_cons r0
  obtain ⟨v2, vs2, d2, ds2, p2, q2, rfl, rfl, rfl, h2, r2⟩ := trodAll_cons r1
  obtain ⟨rfl, rfl, rfl⟩ := trodAll_nil r2
  obtain rfl : args = #[v0, v1, v2] := by cases args; simp_all
  obtain ⟨rfl, rfl⟩ := trodVars_none hV
  obtain ⟨a0, rfl, rfl, rfl, w0⟩ := open_int Try.underlying3 (hval 0 3 v0 rfl rfl) h0
  obtain ⟨a1, len1, cap1, rfl⟩ := okWide_slice Try.underlying22 (hval 1 22 v1 rfl rfl)
  have k1 := h1
  have lt1 : ∀ x ∈ p1, x.block < W.heap.size := by obtain ⟨m, hm⟩ := k1; exact DataW.trod_lt m _ _ _ hm
  have c1 : len1 ≤ cap1 := by obtain ⟨m, hm⟩ := k1; exact (open_cap Try.underlying22 hm).1
  obtain ⟨z1, w1⟩ := (by obtain ⟨fuel, hf⟩ := h1; exact open_nums hf : ∃ z : List Int, Lies (Old W) W (.slice a1 len1 cap1) (z.map (Value.int .i64)))
  obtain ⟨a2, len2, cap2, rfl⟩ := okWide_slice Try.underlying23 (hval 2 23 v2 rfl rfl)
  have k2 := h2
  have lt2 : ∀ x ∈ p2, x.block < W.heap.size := by obtain ⟨m, hm⟩ := k2; exact DataW.trod_lt m _ _ _ hm
  have c2 : len2 ≤ cap2 ∧ cap2 ≤ maxLen := by obtain ⟨m, hm⟩ := k2; exact open_cap Try.underlying23 hm
  obtain ⟨z2, w2⟩ := (by obtain ⟨fuel, hf⟩ := h2; exact open_places hf : ∃ z : List (Int × Int), z.length = len2 ∧ Lie (Old W) W (.slice a2 len2 cap2) z.length (z.flatMap f2))
  clear hA0 hval0
  refine (walk W a0 a1 len1 cap1 z1 a2 len2 cap2 z2 w0 w1 c1 w2 c2).mono fun e W' ⟨he, bel⟩ => ?_
  subst he
  exact ⟨_, rfl, _, _, _, [], _, [], hW', trodAll_mk1 (shut_bool Try.underlying4 _), (trodAll_cons_mk (shut_int Try.underlying3 w0) (trodAll_cons_mk (Below.trod laidOut (by kernel_rfl) (of_decide_eq_true (by kernel_rfl)) k1 bel lt1) (trodAll_cons_mk (Below.trod laidOut (by kernel_rfl) (of_decide_eq_true (by kernel_rfl)) k2 bel lt2) trodAll_mk0))), rfl, bel.frame _, fun h => by cases h⟩

theorem over : Rows.evictRoomRow.holds Try.pinned (OpenSpec.ofChange Rows.evictRoomSpec) :=
  OpenClaim.holds_of_wide 6 Try.f6 rfl rfl rfl rfl rfl rfl rfl ⟨rfl, rfl, rfl, rfl, rfl⟩ rfl rfl rfl rfl rfl (by kernel_rfl) Try.func6 (by kernel_rfl)
    (of_decide_eq_true (by kernel_rfl)) (by unfold Func.isWrapper; first | (rw [if_pos (by decide +kernel)]; kernel_rfl) | (rw [if_neg (by decide +kernel)]; exact ⟨rfl, rfl⟩))
    (fun os started H enc _ => lifted os started H enc)

theorem proved : Rows.EvictRoomSaid := over
end Go.Proofs.Ytkaohjlnlgennaa.evictRoom
namespace Go.Proofs.Ytkaohjlnlgennaa
theorem evictRoom_holds : Rows.EvictRoomSaid := evictRoom.proved
#print axioms evictRoom_holds
end Go.Proofs.Ytkaohjlnlgennaa
