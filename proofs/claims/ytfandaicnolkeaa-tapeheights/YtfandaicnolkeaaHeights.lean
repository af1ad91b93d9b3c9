/-
  Proved: for every list of leaves and every two numbers low and high the law TapeHeights returns true and leaves its arguments as they were; no condition.
-/
import Derived.Test.YtfandaicnolkeaaRows
import Derived.Test.YtfandaicnolkeaaTape
import Derived.WalkKit
import Derived.ProofKit
import Derived.OpenShut
import Derived.ShutString
import Derived.ChangeOld
import Derived.Below
namespace Go.Proofs.Ytfandaicnolkeaa.tapeHeights
open Go.ChangeShapes Go.WideShapes Go.ChangeAt Go.RowKit Go.Proofs.Ytfandaicnolkeaa.hp Go.Proofs.Ytfandaicnolkeaa.tp
open Go.ChangeMaps (open_string shut_string)
set_option linter.unusedVariables false

theorem own : ownKnob Try.prog.godebug = none := by kernel_rfl
theorem laidOut : laidOutB Try.prog = true := by kernel_rfl

/-- WHAT THE WALK IS TOLD OF A SLICE OF INTEGERS THAT CAME IN: it is nil; or it leads to a row of 'cap' cells, the numbers 'zs' (the first 'len' are its elements, the rest its spare room), each fitting its kind. -/
def IsRow (k : IntKind) (w : World) (a : Option Addr) (len cap : Nat) (zs : List Int) : Prop :=
  (a = none ∧ len = 0 ∧ cap = 0 ∧ zs = []) ∨
  ∃ x, a = some x ∧ len ≤ cap ∧ cap ≤ maxLen ∧ zs.length = cap ∧ (∀ i, i < zs.length → w.cell? (x.add i) = some (.int k (zs.getD i 0))) ∧ ∀ n ∈ zs, (Lit.int k n).wf = true

/-! ### STEP 1: THE WALK: the Go text returns true, AND WRITES NOTHING THAT WAS THERE: 'Below w.heap.size w w'' (Derived/Below.lean: '.refl', '.alloc', '.drew', '.setCell' at a new block, '.trans'). Open each 'IsRow' by 'rcases' AHEAD of 'go_enter'; part every test ahead of the walk. -/
theorem arg_of_row {k : IntKind} {w : World} {a : Option Addr} {len cap : Nat} {zs : List Int} (h : IsRow k w a len cap zs) : Arg k w a len cap (zs.take len) := by
  rcases h with ⟨rfl, rfl, rfl, rfl⟩ | ⟨x, rfl, hl, hm, hz, hcell, hwz⟩
  · exact .inl ⟨rfl, rfl, rfl, rfl⟩
  · refine .inr ⟨x, rfl, by simp; omega, fun i hi => ?_⟩
    rw [hcell i (by omega), List.getD_eq_getElem?_getD, List.getD_eq_getElem?_getD, List.getElem?_take_of_lt hi]

theorem early (a0 : Option Addr) (len0 cap0 : Nat) (a1 : Int) (a2 : Int) (w : World) (hh : 500 < len0 ∨ a1 < 0 ∨ a2 < a1 ∨ 6 < a2) :
    Calls Try.prog 5 #[.slice a0 len0 cap0, .int .i64 a1, .int .i64 a2] w fun e w' => e = .returned (.bool true) ∧ Below w.heap.size w w' := by
  have hc : (500 < (len0 : Int)) ∨ ((len0 : Int) ≤ 500 ∧ a1 < 0) ∨ ((len0 : Int) ≤ 500 ∧ 0 ≤ a1 ∧ a2 < a1) ∨ ((len0 : Int) ≤ 500 ∧ 0 ≤ a1 ∧ a1 ≤ a2 ∧ 6 < a2) := by omega
  clear hh
  rcases hc with h1 | ⟨h1, h2⟩ | ⟨h1, h2, h3⟩ | ⟨h1, h2, h3, h4⟩
  all_goals
    go_enter Try.func5, Try.ntmps5
    go_wp2_with fail
    refine (first_any _).mono ?_
    rintro e w1 ⟨rfl, b1⟩
    go_wp2_with fail
    refine (first_any _).mono ?_
    rintro e w2 ⟨rfl, b2⟩
    go_wp2
    go_ret
    exact ⟨rfl, b1.trans (b2.mono b1.size)⟩

theorem late (a0 : Option Addr) (len0 cap0 : Nat) (zs : List Int) (l h : Nat) (w : World) (A : Arg .i64 w a0 len0 cap0 zs) (hl : len0 ≤ 500) (hlh : l ≤ h) (hh : h ≤ 6) :
    Calls Try.prog 5 #[.slice a0 len0 cap0, .int .i64 l, .int .i64 h] w fun e w' => e = .returned (.bool true) ∧ Below w.heap.size w w' := by
  have hc1 : (len0 : Int) ≤ 500 := by omega
  have hc2 : (l : Int) ≤ (h : Int) := by omega
  have hc3 : (h : Int) ≤ 6 := by omega
  obtain ⟨P, hP, hP1, hP2, HP⟩ := pow_ex l (by omega)
  obtain ⟨Q, hQ, hQ1, hQ2, HQ⟩ := pow_ex h (by omega)
  go_enter Try.func5, Try.ntmps5
  go_wp2_with fail
  refine (first_any _).mono ?_
  rintro e w1 ⟨rfl, b1⟩
  have A1 := A.below b1
  go_wp2_with fail
  refine (newLeaves_any a0 len0 cap0 zs w1 A1 (by omega)).mono ?_
  rintro e w2 ⟨p, v, rfl, t1, b2⟩
  have A2 := A1.below b2
  go_wp2_with fail
  refine (newLeaves_any a0 len0 cap0 zs w2 A2 (by omega)).mono ?_
  rintro e w3 ⟨q, u, rfl, t2, b3⟩
  have T1 := t1.chg (Chg.of_below b3 []) (by simp)
  have hA := A.len
  have HA : Hid (zs.length = len0) := hA
  clear hA A A1 A2 t1
  have hb : 1 ≤ 1 := by omega
  go_wp2
  go_loopw [9] (fun i wr => ∃ k : Nat, k ≤ len0 + 3 ∧ i = .int .i64 k ∧ Tp 46 3 .i64 wr p k zs v w1.heap.size w2.heap.size ∧ Tp 46 3 .i64 wr q k zs u w2.heap.size w3.heap.size ∧ Chg [p, q] w3 wr) (fun i _ => len0 + 3 - (intOf i).toNat)
  case atStart => exact ⟨0, by omega, rfl, T1, t2, Chg.refl _ _⟩
  case round =>
    obtain ⟨k, hk, rfl, s1, s2, c⟩ := hrel
    by_cases hlt : k < len0 + 3
    · have hki : (k : Int) < (len0 : Int) + 3 := by omega
      obtain ⟨N, M, hN, hM, hNM, hM0, hMQ⟩ := leaf_pair zs k l h P Q hlh HP.out HQ.out
      go_wp2_with fail
      refine (draw_at k k rfl zs s1 (by omega) l l rfl (by omega) N hN).mono ?_
      rintro e w4 ⟨rfl, s3, c3⟩
      have s4 := s2.chg c3 (by have := s1.phi; have := s1.plo; intro x hx; simp at hx; omega)
      go_wp2_with fail
      refine (draw_at k k rfl zs s4 (by omega) h h rfl (by omega) M hM).mono ?_
      rintro e w5 ⟨rfl, s5, c5⟩
      have s6 := s3.chg c5 (by have := s4.phi; have := s4.plo; intro x hx; simp at hx; omega)
      have HN : Hid (leafOf zs k l = N) := hN
      have HM : Hid (leafOf zs k h = M) := hM
      clear hN hM
      go_wp2
      go_roundw
      case rel => exact ⟨k + 1, by omega, by go_num, s6, s5, (c.trans c3 (by simp)).trans c5 (by simp)⟩
      case measure => simp [intOf]; omega
    · have hki : (len0 : Int) + 3 ≤ (k : Int) := by omega
      have hk3 : k = len0 + 3 := by omega
      have h4 : (zs.length : Int) - k ≤ 0 := by have := HA.out; omega
      have h5 : max ((zs.length : Int) - k) 0 = 0 := by omega
      have HK : Hid (k = len0 + 3) := hk3
      have hk4 : ((k : Int) == (len0 : Int) + 3) = true := by simp; omega
      clear hk3
      go_wp2_with fail
      refine (first_any _).mono ?_
      rintro e w4 ⟨rfl, b4⟩
      have s3 := s1.chg (Chg.of_below b4 []) (by simp)
      go_wp2_with fail
      refine (left_tp s3 (by omega)).mono ?_
      rintro e w5 ⟨rfl, m, rfl⟩
      go_wp2_with fail
      refine (drawn_tp (s3.chg ((Chg.refl [] _).drewN m) (by simp))).mono ?_
      rintro e w6 ⟨rfl, rfl⟩
      go_wp2
      go_ret
      have hp := s1.plo
      have hq := s2.plo
      have z1 := b1.size
      have z2 := b2.size
      have z3 := b3.size
      have C : Chg [] w w3 := ((Chg.of_below b1 []).trans (Chg.of_below b2 []) (by simp)).trans (Chg.of_below b3 []) (by simp)
      have C2 : Chg [] w wr := C.trans c (by intro x hx; simp at hx; rcases hx with rfl | rfl <;> exact .inr (by omega))
      exact ⟨rfl, ((C2.trans (Chg.of_below b4 []) (by simp)).drewN m).below⟩

theorem walk (a0 : Option Addr) (len0 cap0 : Nat) (z0 : List Int) (a1 : Int) (a2 : Int) (w : World) (w0 : IsRow .i64 w a0 len0 cap0 z0) (w1 : (Lit.int .i64 a1).wf = true) (w2 : (Lit.int .i64 a2).wf = true) :
    Calls Try.prog 5 #[.slice a0 len0 cap0, .int .i64 a1, .int .i64 a2] w fun e w' => e = .returned (.bool true) ∧ Below w.heap.size w w' := by
  by_cases hh : 500 < len0 ∨ a1 < 0 ∨ a2 < a1 ∨ 6 < a2
  · exact early a0 len0 cap0 a1 a2 w hh
  · obtain ⟨l, rfl⟩ := Int.eq_ofNat_of_zero_le (show 0 ≤ a1 by omega)
    obtain ⟨h, rfl⟩ := Int.eq_ofNat_of_zero_le (show 0 ≤ a2 by omega)
    exact late a0 len0 cap0 (z0.take len0) l h w (arg_of_row w0) (by omega) (by omega) (by omega)

/-! ### THE ROW's STEP: WRITTEN OUT: LEAVE IT -/
set_option maxRecDepth 100000 in
theorem lifted (os : Os) (started : os.Started) (H : Type) (enc : TypeId × Value → H) :
    ReturnsInHanded {} Try.checked os 5 .any (Rows.tapeHeightsSpec.pre6 enc Try.prog Try.f5 Rows.tapeHeightsRow.domain false) (Rows.tapeHeightsSpec.post enc Try.prog Try.f5 false true false false) := by
  refine returnsInHanded_of_change (C := Try.checked) own started (by kernel_rfl) Try.func5
    (ChangeSpec.witness6 (enc := enc) (C := Try.checked) false ⟨#[], #[.slice none 0 0, .int .i64 0, .int .i64 0], []⟩ 8 (by kernel_rfl) (by kernel_rfl) (by kernel_rfl) (by kernel_rfl)) ?_
  intro W base args ds gs before hval0 hW hcnd _
  have hval : ∀ (j : Nat) t v, Try.f5.params[j]? = some t → args[j]? = some v → Value.okWide Try.prog W .any base t v := hval0
  have hW' := hW
  obtain ⟨p, q, hA0, hV, rfl, hfz, hnd⟩ := hW
  have hA : DataW.TrodAll enc Try.prog W 0 (fun _ => true) true Try.f5.params.toList args.toList ds p := hA0
  rw [Try.params5] at hA hval
  obtain ⟨v0, vs0, d0, ds0, p0, q0, hargs, rfl, rfl, h0, r0⟩ := trodAll_cons hA
  obtain ⟨v1, vs1, d1, ds1, p1, q1, rfl, rfl, rfl, h1, r1⟩ := trodAll_cons r0
  obtain ⟨v2, vs2, d2, ds2, p2, q2, rfl, rfl, rfl, h2, r2⟩ := trodAll_cons r1
  obtain ⟨rfl, rfl, rfl⟩ := trodAll_nil r2
  obtain rfl : args = #[v0, v1, v2] := by cases args; simp_all
  obtain ⟨rfl, rfl⟩ := trodVars_none hV
  obtain ⟨a0, len0, cap0, rfl⟩ := okWide_slice Try.underlying22 (hval 0 22 v0 rfl rfl)
  have k0 := h0
  have lt0 : ∀ x ∈ p0, x.block < W.heap.size := by obtain ⟨m, hm⟩ := k0; exact DataW.trod_lt m _ _ _ hm
  obtain ⟨z0, w0⟩ : ∃ zs, IsRow .i64 W a0 len0 cap0 zs := by
    obtain ⟨fuel, hf⟩ := h0
    rcases open_ints Try.underlying22 Try.underlying3 (by kernel_rfl) hf with ⟨hcs, _⟩ | ⟨x, l, c, zs, hcs, _, hl, hm, hz, _, hcell, hwz⟩
    · simp [Value.cells] at hcs
      obtain ⟨rfl, rfl, rfl⟩ := hcs
      exact ⟨[], .inl ⟨rfl, rfl, rfl, rfl⟩⟩
    · simp [Value.cells] at hcs
      obtain ⟨rfl, rfl, rfl⟩ := hcs
      exact ⟨zs, .inr ⟨_, rfl, hl, hm, by simpa using hz, hcell, hwz⟩⟩
  obtain ⟨a1, rfl, rfl, rfl, w1⟩ := open_int Try.underlying3 (hval 1 3 v1 rfl rfl) h1
  obtain ⟨a2, rfl, rfl, rfl, w2⟩ := open_int Try.underlying3 (hval 2 3 v2 rfl rfl) h2
  clear hA0 hval0
  refine (walk a0 len0 cap0 z0 a1 a2 W w0 w1 w2).mono fun e W' ⟨he, bel⟩ => ?_
  subst he
  exact ⟨_, rfl, _, _, _, [], _, [], hW', trodAll_mk1 (shut_bool Try.underlying4 _), (trodAll_cons_mk (Below.trod laidOut (by kernel_rfl) (of_decide_eq_true (by kernel_rfl)) k0 bel lt0) (trodAll_cons_mk (shut_int Try.underlying3 w1) (trodAll_cons_mk (shut_int Try.underlying3 w2) trodAll_mk0))), rfl, bel.frame _, fun h => by cases h⟩

theorem over : Rows.tapeHeightsRow.holds Try.pinned (OpenSpec.ofChange Rows.tapeHeightsSpec) :=
  OpenClaim.holds_of_wide 5 Try.f5 rfl rfl rfl rfl rfl rfl rfl ⟨rfl, rfl, rfl, rfl, rfl⟩ rfl rfl rfl rfl rfl (by kernel_rfl) Try.func5 (by kernel_rfl)
    (of_decide_eq_true (by kernel_rfl)) (by unfold Func.isWrapper; first | (rw [if_pos (by decide +kernel)]; kernel_rfl) | (rw [if_neg (by decide +kernel)]; exact ⟨rfl, rfl⟩))
    (fun os started H enc _ => lifted os started H enc)

/-- ████ THE STATEMENT ████ -/
theorem proved : Rows.TapeHeightsSaid := over
end Go.Proofs.Ytfandaicnolkeaa.tapeHeights
namespace Go.Proofs.Ytfandaicnolkeaa
theorem tapeHeights_holds : Rows.TapeHeightsSaid := tapeHeights.proved
#print axioms tapeHeights_holds
end Go.Proofs.Ytfandaicnolkeaa
