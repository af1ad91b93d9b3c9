/-
  Proved: for every list of pads and every two numbers more and none the law TapeEnd returns true and leaves its arguments as they were; no condition.
-/
import Derived.Test.YtfandaicnolkeaaRows
import Derived.Test.YtfandaicnolkeaaBytes
import Derived.WalkKit
import Derived.ProofKit
import Derived.OpenShut
import Derived.ShutString
import Derived.ChangeOld
import Derived.Below
namespace Go.Proofs.Ytfandaicnolkeaa.tapeEnd
open Go.ChangeShapes Go.WideShapes Go.ChangeAt Go.RowKit Go.Proofs.Ytfandaicnolkeaa.hp Go.Proofs.Ytfandaicnolkeaa.tp
open Go.ChangeMaps (open_string shut_string)
set_option linter.unusedVariables false

theorem own : ownKnob Try.prog.godebug = none := by kernel_rfl
theorem laidOut : laidOutB Try.prog = true := by kernel_rfl

/-- WHAT THE WALK IS TOLD OF A SLICE OF INTEGERS THAT CAME IN: it is nil; or it leads to a row of 'cap' cells, the numbers 'zs' (the first 'len' are its elements, the rest its spare room), each fitting its kind. -/
def IsRow (k : IntKind) (w : World) (a : Option Addr) (len cap : Nat) (zs : List Int) : Prop :=
  (a = none ∧ len = 0 ∧ cap = 0 ∧ zs = []) ∨
  ∃ x, a = some x ∧ len ≤ cap ∧ cap ≤ maxLen ∧ zs.length = cap ∧ (∀ i, i < zs.length → w.cell? (x.add i) = some (.int k (zs.getD i 0))) ∧ ∀ n ∈ zs, (Lit.int k n).wf = true

/-! ### STEP 1: THE WALK: the Go text returns true, AND WRITES NOTHING THAT WAS THERE: 'Below w.heap.size w w'' (Derived/Below.lean: '.refl', '.alloc', '.drew', '.setCell' at a new block, '.trans'). Open each 'IsRow' by 'rcases' AHEAD of 'go_enter'; part every test ahead of the walk. -/
theorem arg_of_row {k : IntKind} {w : World} {a : Option Addr} {len cap : Nat} {zs : List Int} (h : IsRow k w a len cap zs) : Arg k w a len cap (zs.take len) := by
  rcases h with ⟨rfl, rfl, rfl, rfl⟩ | ⟨x, rfl, hl, hm, hz, hcell, hwz⟩
  · exact .inl ⟨rfl, rfl, rfl, rfl⟩
  · refine .inr ⟨x, rfl, by simp; omega, fun i hi => ?_⟩
    rw [hcell i (by omega), List.getD_eq_getElem?_getD, List.getD_eq_getElem?_getD, List.getElem?_take_of_lt hi]

theorem early (a0 : Option Addr) (len0 cap0 : Nat) (a1 : Int) (a2 : Int) (w : World) (hh : 500 < len0 ∨ a1 < 1 ∨ 500 < a1 ∨ (0 < a2 ∧ a2 ≤ 1048576)) :
    Calls Try.prog 6 #[.slice a0 len0 cap0, .int .i64 a1, .int .i64 a2] w fun e w' => e = .returned (.bool true) ∧ Below w.heap.size w w' := by
  have hc : (500 < (len0 : Int)) ∨ ((len0 : Int) ≤ 500 ∧ a1 < 1) ∨ ((len0 : Int) ≤ 500 ∧ 1 ≤ a1 ∧ 500 < a1) ∨ ((len0 : Int) ≤ 500 ∧ 1 ≤ a1 ∧ a1 ≤ 500 ∧ 0 < a2 ∧ a2 ≤ 1048576) := by omega
  clear hh
  rcases hc with h1 | ⟨h1, h2⟩ | ⟨h1, h2, h3⟩ | ⟨h1, h2, h3, h4, h5⟩
  all_goals
    go_enter Try.func6, Try.ntmps6
    go_wp2_with fail
    refine (first_any _).mono ?_
    rintro e w1 ⟨rfl, b1⟩
    go_wp2_with fail
    refine (first_any _).mono ?_
    rintro e w2 ⟨rfl, b2⟩
    go_wp2
    go_ret
    exact ⟨rfl, b1.trans (b2.mono b1.size)⟩

set_option maxHeartbeats 1000000 in
theorem late (a0 : Option Addr) (len0 cap0 : Nat) (zs : List Int) (m : Nat) (a2 : Int) (w : World) (A : Arg .u8 w a0 len0 cap0 zs) (hl : len0 ≤ 500) (h1 : 1 ≤ m) (h2 : m ≤ 500) (h3 : a2 ≤ 0 ∨ 1048576 < a2) :
    Calls Try.prog 6 #[.slice a0 len0 cap0, .int .i64 m, .int .i64 a2] w fun e w' => e = .returned (.bool true) ∧ Below w.heap.size w w' := by
  have hc1 : (len0 : Int) ≤ 500 := by omega
  have hc2 : (1 : Int) ≤ (m : Int) := by omega
  have hc3 : (m : Int) ≤ 500 := by omega
  have H3 : Hid (a2 < 1 ∨ 1048576 < a2) := by show a2 < 1 ∨ _; omega
  have HA : Hid (zs.length = len0) := A.len
  have ha2 : (a2 ≤ 0) ∨ (0 < a2 ∧ 1048576 < a2) := by omega
  clear h3
  obtain ⟨N, hN⟩ : ∃ N : Nat, N = len0 + m := ⟨_, rfl⟩
  have HN : Hid (N = len0 + m) := hN
  have hNi : (N : Int) = (len0 : Int) + m := by omega
  have hleft : max ((zs.length : Int) - (0 : Nat)) 0 = len0 := by have := HA.out; omega
  clear hN
  rcases ha2 with h4 | ⟨h4, h5⟩
  all_goals
    go_enter Try.func6, Try.ntmps6
    go_wp2_with fail
    refine (first_any _).mono ?_
    rintro e w1 ⟨rfl, b1⟩
    have A1 := A.below b1
    go_wp2_with fail
    refine (newPads_any a0 len0 cap0 zs w1 A1 (by omega)).mono ?_
    rintro e w2 ⟨p, v, rfl, t1, b2⟩
    have A2 := A1.below b2
    go_wp2_with fail
    refine (newLeaves_any none 0 0 [] w2 (.inl ⟨rfl, rfl, rfl, rfl⟩) (by omega)).mono ?_
    rintro e w3 ⟨q, u, rfl, t2, b3⟩
    have T1 := t1.chg (Chg.of_below b3 []) (by simp)
    have A3 := A2.below b3
    go_wp2_with fail
    refine (pads_bad p w3 a2 H3.out).mono ?_
    rintro e w4 ⟨rfl, rfl⟩
    go_wp2_with fail
    refine (drawn_tp T1).mono ?_
    rintro e w5 ⟨rfl, rfl⟩
    go_wp2_with fail
    refine (left_tp T1 (by omega)).mono ?_
    rintro e w6 ⟨rfl, mm, rfl⟩
    go_wp2_with fail
    have T2 := T1.chg ((Chg.refl [] w5).drewN mm) (by simp)
    have hpw : w.heap.size ≤ p := by have := t1.plo; have := b1.size; omega
    have C5 : Chg [] w w5 := ((Chg.of_below b1 []).trans (Chg.of_below b2 []) (by simp)).trans (Chg.of_below b3 []) (by simp)
    refine (pads_at T2 (by omega) N _ hNi.symm (by have := HN.out; omega) (by have := HN.out; omega)).mono ?_
    rintro e w7 ⟨rfl, o7, T7, c7⟩
    have C7 : Chg [] w w7 := (C5.drewN mm).trans c7 (by intro x hx; simp at hx; subst hx; exact .inr hpw)
    have A7 : Arg .u8 w7 a0 len0 cap0 zs := A.below C7.below
    have B7 := Arg.of_owns o7
    have hlN : (len0 : Int) ≤ N := by have := HN.out; omega
    have hlN' : len0 ≤ N := by omega
    have F7 : Arg .u8 w7 (some ⟨w5.heap.size, 0, none⟩) len0 N zs := by
      have := B7.take len0 N hlN'
      rw [← HA.out, padsOf_front zs N (by have := HA.out; omega), HA.out] at this
      exact this
    have Z7 : Hid (∀ k : Nat, len0 ≤ k → k < N → w7.cell? ⟨w5.heap.size, k, none⟩ = some (.int .u8 0)) := by
      intro k hk1 hk2
      exact zero_at B7 (by have := HA.out; omega) hk2
    go_wp2_with fail
    refine (bytes_same F7 A7).mono ?_
    rintro e w8 ⟨rfl, rfl⟩
    have hq2 := t2.chg ((Chg.refl [] w5).drewN mm) (by simp)
    have Q7 : Tp 46 3 .i64 w8 q 0 [] u w2.heap.size w5.heap.size := hq2.chg c7 (by intro x hx; simp at hx; subst hx; have := t1.phi; exact .inl this)
    clear A A1 A2 A3 A7 B7 F7 o7 t1 t2 T1 T2 b2 b3 c7 C5 hq2 hleft
    go_wp2_with fail
    go_loop [10] (fun i => ∃ k : Nat, len0 ≤ k ∧ k ≤ N ∧ i = .int .i64 k) (fun i => N - (intOf i).toNat)
    case atStart => exact ⟨len0, by omega, by omega, rfl⟩
    case round =>
      obtain ⟨k, hk1, hk2, rfl⟩ := hrel
      by_cases hlt : k < N
      · have hki : (k : Int) < N := by omega
        have hNb : N ≤ 1000 := by have := HN.out; omega
        have hc := Z7.out k hk1 hlt
        clear hNi
        go_wp2
        go_round
        case rel => exact ⟨k + 1, by omega, by omega, by go_num⟩
        case measure => simp [intOf]; omega
      · have hki : (N : Int) ≤ (k : Int) := by omega
        have hleft : max ((zs.length : Int) - (N : Int)) 0 = 0 := by have := HA.out; omega
        clear hNi
        go_wp2_with fail
        refine (draw_bad q w8 (-1) (by omega)).mono ?_
        rintro e w9 ⟨rfl, rfl⟩
        go_wp2_with fail
        refine (first_any _).mono ?_
        rintro e w10 ⟨rfl, b10⟩
        go_wp2_with fail
        refine (drawn_tp (Q7.chg (Chg.of_below b10 []) (by simp))).mono ?_
        rintro e w11 ⟨rfl, rfl⟩
        go_wp2_with fail
        refine (left_tp (T7.chg (Chg.of_below b10 []) (by simp)) (by have := HN.out; omega)).mono ?_
        rintro e w12 ⟨rfl, m2, rfl⟩
        go_wp2
        go_ret
        exact ⟨rfl, ((C7.trans (Chg.of_below b10 []) (by simp)).drewN m2).below⟩

theorem walk (a0 : Option Addr) (len0 cap0 : Nat) (z0 : List Int) (a1 : Int) (a2 : Int) (w : World) (w0 : IsRow .u8 w a0 len0 cap0 z0) (w1 : (Lit.int .i64 a1).wf = true) (w2 : (Lit.int .i64 a2).wf = true) :
    Calls Try.prog 6 #[.slice a0 len0 cap0, .int .i64 a1, .int .i64 a2] w fun e w' => e = .returned (.bool true) ∧ Below w.heap.size w w' := by
  by_cases hh : 500 < len0 ∨ a1 < 1 ∨ 500 < a1 ∨ (0 < a2 ∧ a2 ≤ 1048576)
  · exact early a0 len0 cap0 a1 a2 w hh
  · obtain ⟨m, rfl⟩ := Int.eq_ofNat_of_zero_le (show 0 ≤ a1 by omega)
    exact late a0 len0 cap0 (z0.take len0) m a2 w (arg_of_row w0) (by omega) (by omega) (by omega) (by omega)

/-! ### THE ROW's STEP: WRITTEN OUT: LEAVE IT -/
set_option maxRecDepth 100000 in
theorem lifted (os : Os) (started : os.Started) (H : Type) (enc : TypeId × Value → H) :
    ReturnsInHanded {} Try.checked os 6 .any (Rows.tapeEndSpec.pre6 enc Try.prog Try.f6 Rows.tapeEndRow.domain false) (Rows.tapeEndSpec.post enc Try.prog Try.f6 false true false false) := by
  refine returnsInHanded_of_change (C := Try.checked) own started (by kernel_rfl) Try.func6
    (ChangeSpec.witness6 (enc := enc) (C := Try.checked) false ⟨#[], #[.slice none 0 0, .int .i64 0, .int .i64 0], []⟩ 8 (by kernel_rfl) (by kernel_rfl) (by kernel_rfl) (by kernel_rfl)) ?_
  intro W base args ds gs before hval0 hW hcnd _
  have hval : ∀ (j : Nat) t v, Try.f6.params[j]? = some t → args[j]? = some v → Value.okWide Try.prog W .any base t v := hval0
  have hW' := hW
  obtain ⟨p, q, hA0, hV, rfl, hfz, hnd⟩ := hW
  have hA : DataW.TrodAll enc Try.prog W 0 (fun _ => true) true Try.f6.params.toList args.toList ds p := hA0
  rw [Try.params6] at hA hval
  obtain ⟨v0, vs0, d0, ds0, p0, q0, hargs, rfl, rfl, h0, r0⟩ := trodAll_cons hA
  obtain ⟨v1, vs1, d1, ds1, p1, q1, rfl, rfl, rfl, h1, r1⟩ := trodAll_cons r0
  obtain ⟨v2, vs2, d2, ds2, p2, q2, rfl, rfl, rfl, h2, r2⟩ := trodAll_cons r1
  obtain ⟨rfl, rfl, rfl⟩ := trodAll_nil r2
  obtain rfl : args = #[v0, v1, v2] := by cases args; simp_all
  obtain ⟨rfl, rfl⟩ := trodVars_none hV
  obtain ⟨a0, len0, cap0, rfl⟩ := okWide_slice Try.underlying23 (hval 0 23 v0 rfl rfl)
  have k0 := h0
  have lt0 : ∀ x ∈ p0, x.block < W.heap.size := by obtain ⟨m, hm⟩ := k0; exact DataW.trod_lt m _ _ _ hm
  obtain ⟨z0, w0⟩ : ∃ zs, IsRow .u8 W a0 len0 cap0 zs := by
    obtain ⟨fuel, hf⟩ := h0
    rcases open_ints Try.underlying23 Try.underlying5 (by kernel_rfl) hf with ⟨hcs, _⟩ | ⟨x, l, c, zs, hcs, _, hl, hm, hz, _, hcell, hwz⟩
    · simp [Value.cells] at hcs
      obtain ⟨rfl, rfl, rfl⟩ := hcs
      exact ⟨[], .inl ⟨rfl, rfl, rfl, rfl⟩⟩
    · simp [Value.cells] at hcs
      obtain ⟨rfl, rfl, rfl⟩ := hcs
      exact ⟨zs, .inr ⟨_, rfl, hl, hm, by simpa using hz, hcell, hwz⟩⟩
  obtain ⟨a1, rfl, rfl, rfl, w1⟩ := open_int Try.underlying3 (hval 1 3 v1 rfl rfl) h1
  obtain ⟨a2, rfl, rfl, rfl, w2⟩ := open_int Try.underlying3 (hval 2 3 v2 rfl rfl) h2
  clear hA0 hval0
  refine (walk a0 len0 cap0 z0 a1 a2 W w0 w1 w2).mono fun e W' ⟨he, bel⟩ => ?_
  subst he
  exact ⟨_, rfl, _, _, _, [], _, [], hW', trodAll_mk1 (shut_bool Try.underlying4 _), (trodAll_cons_mk (Below.trod laidOut (by kernel_rfl) (of_decide_eq_true (by kernel_rfl)) k0 bel lt0) (trodAll_cons_mk (shut_int Try.underlying3 w1) (trodAll_cons_mk (shut_int Try.underlying3 w2) trodAll_mk0))), rfl, bel.frame _, fun h => by cases h⟩

theorem over : Rows.tapeEndRow.holds Try.pinned (OpenSpec.ofChange Rows.tapeEndSpec) :=
  OpenClaim.holds_of_wide 6 Try.f6 rfl rfl rfl rfl rfl rfl rfl ⟨rfl, rfl, rfl, rfl, rfl⟩ rfl rfl rfl rfl rfl (by kernel_rfl) Try.func6 (by kernel_rfl)
    (of_decide_eq_true (by kernel_rfl)) (by unfold Func.isWrapper; first | (rw [if_pos (by decide +kernel)]; kernel_rfl) | (rw [if_neg (by decide +kernel)]; exact ⟨rfl, rfl⟩))
    (fun os started H enc _ => lifted os started H enc)

/-- ████ THE STATEMENT ████ -/
theorem proved : Rows.TapeEndSaid := over
end Go.Proofs.Ytfandaicnolkeaa.tapeEnd
namespace Go.Proofs.Ytfandaicnolkeaa
theorem tapeEnd_holds : Rows.TapeEndSaid := tapeEnd.proved
#print axioms tapeEnd_holds
end Go.Proofs.Ytfandaicnolkeaa
