/-
  Proved: for every height and any list of numbers the law TreeUnions returns true; no condition.
-/
import Derived.Test.YtgdhbkhhholkgaaArgs
import Derived.Below
namespace Go.Proofs.Ytgdhbkhhholkgaa.treeUnions
open Go.ChangeShapes Go.WideShapes Go.ChangeAt Go.RowKit Go.Proofs.Ytgdhbkhhholkgaa.hp Go.Proofs.Ytgdhbkhhholkgaa.tm Go.Proofs.Ytgdhbkhhholkgaa.st
set_option linter.unusedVariables false

theorem uni_length (h : Int) (ls : List Int) : (uni h ls).length ≤ 127 := by
  cases ha : ls.all (okL h)
  · rw [uni_no ha]
    simp
  · rw [uni_yes ha]
    have := rise_length (wys h ls) (bks h).toNat
    have := bks_bounds h
    omega

set_option maxRecDepth 100000 in
set_option maxHeartbeats 2000000 in
theorem early (w : World) (h : Int) (a1 : Option Addr) (l1 c1 : Nat) (hh : 100 < l1) :
    Calls Try.prog 4 #[.int .i64 h, .slice a1 l1 c1] w fun e w' => e = .returned (.bool true) ∧ Below w.heap.size w w' := by
  have hi : (100 : Int) < l1 := by omega
  go_enter Try.func4, Try.ntmps4
  go_wp2_with fail
  refine (first_any _).mono ?_
  rintro e w1 ⟨rfl, k1⟩
  go_wp2_with fail
  refine (first_any _).mono ?_
  rintro e w3 ⟨rfl, k3⟩
  go_wp2
  go_ret
  exact ⟨rfl, (k1.then k3).below⟩

set_option maxRecDepth 100000 in
set_option maxHeartbeats 4000000 in
theorem late (w : World) (h : Int) (a1 : Option Addr) (c1 : Nat) (ls : List Int) (A1 : Lies (Old w) w (.slice a1 ls.length c1) (ls.map (Value.int .i64))) (hl : ls.length ≤ 100) :
    Calls Try.prog 4 #[.int .i64 h, .slice a1 ls.length c1] w fun e w' => e = .returned (.bool true) ∧ Below w.heap.size w w' := by
  have hli : (ls.length : Int) ≤ 100 := by omega
  have HA : Hid (∀ w', Chg no w w' → Lies (Old w) w' (.slice a1 ls.length c1) (ls.map (Value.int .i64))) := fun w' k => A1.chg k (fun _ _ h => h)
  have hul := uni_length h ls
  have HU : Hid (∀ (J : Nat → Prop) (w : World) (v : Value), Lies J w v (ls.map (Value.int .i64)) → Calls Try.prog 24 #[.int .i64 h, v] w fun e w' => ∃ v', e = .returned v' ∧ New w (uni h ls) v' w') := fun J w v hv => union_any w h v ls hv (by omega)
  have HR : Hid (∀ (J : Nat → Prop) (w : World) (v : Value), Lies J w v (ls.map (Value.int .i64)) → Calls Try.prog 25 #[.int .i64 h, v] w fun e w' => ∃ v', e = .returned v' ∧ New w (uni h ls) v' w') := fun J w v hv => runion_any w h v ls hv (by omega)
  obtain ⟨R, hR⟩ : ∃ R, uni h ls = R := ⟨_, rfl⟩
  simp only [hR] at HU HR hul
  clear hR A1
  go_enter Try.func4, Try.ntmps4
  go_wp2_with fail
  refine (first_any _).mono ?_
  rintro e w1 ⟨rfl, k1⟩
  have HC := copyInts_any _ ls _ w1 (HA.out _ k1) (by omega)
  go_wp2_with fail
  refine HC.mono ?_
  rintro e w2 ⟨v2, rfl, N2⟩
  obtain ⟨x2, c2, rfl⟩ := N2.shape
  clear HC
  go_wp2_with fail
  refine (first_any _).mono ?_
  rintro e w3 ⟨rfl, k3⟩
  have N3 := N2.chg k3
  clear N2 k3
  have HU3 := HU.out _ _ _ N3.lies
  go_wp2_with fail
  refine HU3.mono ?_
  rintro e w4 ⟨v4, rfl, N4⟩
  obtain ⟨x4, c4, rfl⟩ := N4.shape
  have N3' := N3.chg N4.2
  have K4 := k1.then N3'.2
  have HR4 := HR.out _ _ _ (HA.out _ K4)
  clear HU3 N3
  go_wp2_with fail
  refine HR4.mono ?_
  rintro e w5 ⟨v5, rfl, N5⟩
  obtain ⟨x5, c5, rfl⟩ := N5.shape
  have N3'' := N3'.chg N5.2
  have K5 := k1.then N3''.2
  have HI := ints_same w5 _ _ R (N4.lies.chg N5.2 (fun _ _ h => h)) N5.lies (by omega)
  clear HR4 N3' N4 N5 K4
  go_wp2_with fail
  refine HI.mono ?_
  rintro e w6 ⟨rfl, n6, rfl⟩
  have HI2 := ints_same (w5.drewN n6) _ _ ls ((N3''.drewN n6).lies) (HA.out _ (K5.drewN n6)) (by omega)
  have K6 := K5.drewN n6
  clear HI N3'' K5
  go_wp2_with fail
  refine HI2.mono ?_
  rintro e w7 ⟨rfl, n7, rfl⟩
  go_wp2
  go_ret
  refine ⟨rfl, ?_⟩
  have K7 := K6.drewN n7
  first | exact K7.below | (rw [World.drewN_drewN] at K7; exact K7.below)

theorem walk (w : World) (a0 : Int) (a1 : Option Addr) (l1 c1 : Nat) (z1 : List Int) (w0 : (Lit.int .i64 a0).wf = true) (A1 : Lies (Old w) w (.slice a1 l1 c1) (z1.map (Value.int .i64))) (k1 : l1 ≤ c1) :
    Calls Try.prog 4 #[.int .i64 a0, .slice a1 l1 c1] w fun e w' => e = .returned (.bool true) ∧ Below w.heap.size w w' := by
  by_cases hh : 100 < l1
  · exact early w a0 a1 l1 c1 hh
  · obtain ⟨a, c, hv, _⟩ := A1.slice
    rw [List.length_map] at hv
    cases hv
    exact late w a0 a1 c1 z1 A1 (by omega)

theorem own : ownKnob Try.prog.godebug = none := by kernel_rfl
theorem laidOut : laidOutB Try.prog = true := by kernel_rfl

set_option maxRecDepth 100000 in
theorem lifted (os : Os) (started : os.Started) (H : Type) (enc : TypeId × Value → H) :
    ReturnsInHanded {} Try.checked os 4 .any (Rows.treeUnionsSpec.pre6 enc Try.prog Try.f4 Rows.treeUnionsRow.domain false) (Rows.treeUnionsSpec.post enc Try.prog Try.f4 false true false false) := by
  refine returnsInHanded_of_change (C := Try.checked) own started (by kernel_rfl) Try.func4
    (ChangeSpec.witness6 (enc := enc) (C := Try.checked) false ⟨#[], #[.int .i64 0, .slice none 0 0], []⟩ 8 (by kernel_rfl) (by kernel_rfl) (by kernel_rfl) (by kernel_rfl)) ?_
  intro W base args ds gs before hval0 hW hcnd _
  have hval : ∀ (j : Nat) t v, Try.f4.params[j]? = some t → args[j]? = some v → Value.okWide Try.prog W .any base t v := hval0
  have hW' := hW
  obtain ⟨p, q, hA0, hV, rfl, hfz, hnd⟩ := hW
  have hA : DataW.TrodAll enc Try.prog W 0 (fun _ => true) true Try.f4.params.toList args.toList ds p := hA0
  rw [Try.params4] at hA hval
  obtain ⟨v0, vs0, d0, ds0, p0, q0, hargs, rfl, rfl, h0, r0⟩ := trodAll_cons hA
  obtain ⟨v1, vs1, d1, ds1, p1, q1, rfl, rfl, rfl, h1, r1⟩ := trodAll_cons r0
  obtain ⟨rfl, rfl, rfl⟩ := trodAll_nil r1
  obtain rfl : args = #[v0, v1] := by cases args; simp_all
  obtain ⟨rfl, rfl⟩ := trodVars_none hV
  obtain ⟨a0, rfl, rfl, rfl, w0⟩ := open_int Try.underlying3 (hval 0 3 v0 rfl rfl) h0
  obtain ⟨a1, len1, cap1, rfl⟩ := okWide_slice Try.underlying27 (hval 1 27 v1 rfl rfl)
  have k1 := h1
  have lt1 : ∀ x ∈ p1, x.block < W.heap.size := by obtain ⟨m, hm⟩ := k1; exact DataW.trod_lt m _ _ _ hm
  have c1 : len1 ≤ cap1 := by obtain ⟨m, hm⟩ := k1; exact (open_cap Try.underlying27 hm).1
  obtain ⟨z1, w1⟩ := (by obtain ⟨fuel, hf⟩ := h1; exact open_nums hf : ∃ z : List Int, Lies (Old W) W (.slice a1 len1 cap1) (z.map (Value.int .i64)))
  clear hA0 hval0
  refine (walk W a0 a1 len1 cap1 z1 w0 w1 c1).mono fun e W' ⟨he, bel⟩ => ?_
  subst he
  exact ⟨_, rfl, _, _, _, [], _, [], hW', trodAll_mk1 (shut_bool Try.underlying4 _), (trodAll_cons_mk (shut_int Try.underlying3 w0) (trodAll_cons_mk (Below.trod laidOut (by kernel_rfl) (of_decide_eq_true (by kernel_rfl)) k1 bel lt1) trodAll_mk0)), rfl, bel.frame _, fun h => by cases h⟩

theorem over : Rows.treeUnionsRow.holds Try.pinned (OpenSpec.ofChange Rows.treeUnionsSpec) :=
  OpenClaim.holds_of_wide 4 Try.f4 rfl rfl rfl rfl rfl rfl rfl ⟨rfl, rfl, rfl, rfl, rfl⟩ rfl rfl rfl rfl rfl (by kernel_rfl) Try.func4 (by kernel_rfl)
    (of_decide_eq_true (by kernel_rfl)) (by unfold Func.isWrapper; first | (rw [if_pos (by decide +kernel)]; kernel_rfl) | (rw [if_neg (by decide +kernel)]; exact ⟨rfl, rfl⟩))
    (fun os started H enc _ => lifted os started H enc)

theorem proved : Rows.TreeUnionsSaid := over
end Go.Proofs.Ytgdhbkhhholkgaa.treeUnions
namespace Go.Proofs.Ytgdhbkhhholkgaa
theorem treeUnions_holds : Rows.TreeUnionsSaid := treeUnions.proved
#print axioms treeUnions_holds
end Go.Proofs.Ytgdhbkhhholkgaa
