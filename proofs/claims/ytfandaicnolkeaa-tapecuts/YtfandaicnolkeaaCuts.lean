/-
  Proved: for every three lists (leaves, pads, cuts) and every height the law TapeCuts returns true and leaves its arguments as they were; no condition.
-/
import Derived.Test.YtfandaicnolkeaaRows
import Derived.Test.YtfandaicnolkeaaState
import Derived.Deep.Cut
import Derived.Deep.CutRange
import Derived.WalkKit
import Derived.ProofKit
import Derived.OpenShut
import Derived.ShutString
import Derived.ChangeOld
import Derived.Below
namespace Go.Proofs.Ytfandaicnolkeaa.tapeCuts
open Go.ChangeShapes Go.WideShapes Go.ChangeAt Go.RowKit Go.Proofs.Ytfandaicnolkeaa.hp Go.Proofs.Ytfandaicnolkeaa.tp
open Go.ChangeMaps (open_string shut_string)
set_option linter.unusedVariables false

theorem own : ownKnob Try.prog.godebug = none := by kernel_rfl
theorem laidOut : laidOutB Try.prog = true := by kernel_rfl

/-- WHAT THE WALK IS TOLD OF A SLICE OF INTEGERS THAT CAME IN: it is nil; or it leads to a row of 'cap' cells, the numbers 'zs' (the first 'len' are its elements, the rest its spare room), each fitting its kind. -/
def IsRow (k : IntKind) (w : World) (a : Option Addr) (len cap : Nat) (zs : List Int) : Prop :=
  (a = none ∧ len = 0 ∧ cap = 0 ∧ zs = []) ∨
  ∃ x, a = some x ∧ len ≤ cap ∧ cap ≤ maxLen ∧ zs.length = cap ∧ (∀ i, i < zs.length → w.cell? (x.add i) = some (.int k (zs.getD i 0))) ∧ ∀ n ∈ zs, (Lit.int k n).wf = true

/-! ### STEP 1: THE WALK: the Go text returns true, AND WRITES NOTHING THAT WAS THERE: 'Below w.heap.size w w'' (Derived/Below.lean: '.refl', '.alloc', '.drew', '.setCell' at a new block, '.trans'). Open each 'IsRow' by 'rcases' AHEAD of 'go_enter'; part every test ahead of the walk. -/
theorem hid_mk {p : Prop} (h : p) : Hid p := h

theorem arg_of_row {k : IntKind} {w : World} {a : Option Addr} {len cap : Nat} {zs : List Int} (h : IsRow k w a len cap zs) : Arg k w a len cap (zs.take len) := by
  rcases h with ⟨rfl, rfl, rfl, rfl⟩ | ⟨x, rfl, hl, hm, hz, hcell, hwz⟩
  · exact .inl ⟨rfl, rfl, rfl, rfl⟩
  · refine .inr ⟨x, rfl, by simp; omega, fun i hi => ?_⟩
    rw [hcell i (by omega), List.getD_eq_getElem?_getD, List.getD_eq_getElem?_getD, List.getElem?_take_of_lt hi]

set_option maxRecDepth 100000 in
theorem early (a0 : Option Addr) (len0 cap0 : Nat) (a1 : Option Addr) (len1 cap1 : Nat) (a2 : Option Addr) (len2 cap2 : Nat) (a3 : Int) (w : World) (hh : 2000 < len0 ∨ 2000 < len1 ∨ 200 < len2) :
    Calls Try.prog 4 #[.slice a0 len0 cap0, .slice a1 len1 cap1, .slice a2 len2 cap2, .int .i64 a3] w fun e w' => e = .returned (.bool true) ∧ Below w.heap.size w w' := by
  have hc : (2000 < (len0 : Int)) ∨ ((len0 : Int) ≤ 2000 ∧ 2000 < (len1 : Int)) ∨ ((len0 : Int) ≤ 2000 ∧ (len1 : Int) ≤ 2000 ∧ 200 < (len2 : Int)) := by omega
  clear hh
  rcases hc with h1 | ⟨h1, h2⟩ | ⟨h1, h2, h3⟩
  all_goals
    go_enter Try.func4, Try.ntmps4
    go_wp2_with fail
    refine (first_any _).mono ?_
    rintro e w1 ⟨rfl, b1⟩
    go_wp2_with fail
    refine (first_any _).mono ?_
    rintro e w2 ⟨rfl, b2⟩
    go_wp2
    go_ret
    exact ⟨rfl, b1.trans (b2.mono b1.size)⟩

set_option maxRecDepth 100000 in
set_option maxHeartbeats 4000000 in
theorem late (a0 : Option Addr) (len0 cap0 : Nat) (zl : List Int) (a1 : Option Addr) (len1 cap1 : Nat) (zp : List Int) (a2 : Option Addr) (len2 cap2 : Nat) (cs : List Int) (a3 : Int) (w : World)
    (A0 : Arg .i64 w a0 len0 cap0 zl) (A1 : Arg .u8 w a1 len1 cap1 zp) (A2 : Arg .i64 w a2 len2 cap2 cs) (hl0 : len0 ≤ 2000) (hl1 : len1 ≤ 2000) (hl2 : len2 ≤ 200) :
    Calls Try.prog 4 #[.slice a0 len0 cap0, .slice a1 len1 cap1, .slice a2 len2 cap2, .int .i64 a3] w fun e w' => e = .returned (.bool true) ∧ Below w.heap.size w w' := by
  obtain ⟨i0, hi, hz0, hz1, hz2⟩ := info_parts info5
  have hc0 : (len0 : Int) ≤ 2000 := by omega
  have hc1 : (len1 : Int) ≤ 2000 := by omega
  have hc2 : (len2 : Int) ≤ 200 := by omega
  go_enter Try.func4, Try.ntmps4
  go_wp2_with fail
  refine (first_any _).mono ?_
  rintro e w1 ⟨rfl, b1⟩
  have B1 := A1.below b1
  go_wp2_with fail
  refine (newPads_any a1 len1 cap1 zp w1 B1 (by omega)).mono ?_
  rintro e w2 ⟨p, v, rfl, t1, b2⟩
  have B2 := B1.below b2
  go_wp2_with fail
  refine (newPads_any a1 len1 cap1 zp w2 B2 (by omega)).mono ?_
  rintro e w3 ⟨q, u, rfl, t2, b3⟩
  have C3 : Chg [] w w3 := ((Chg.of_below b1 []).trans (Chg.of_below b2 []) (by simp)).trans (Chg.of_below b3 []) (by simp)
  go_wp2_with fail
  refine (newLeaves_any a0 len0 cap0 zl w3 (A0.below C3.below) (by omega)).mono ?_
  rintro e w4 ⟨r, t, rfl, t3, b4⟩
  have C4 : Chg [] w w4 := C3.trans (Chg.of_below b4 []) (by simp)
  have G := Chg.of_below b4 []
  have s0 : S1 w w1.heap.size w2.heap.size w3.heap.size w4.heap.size p q r v u t zp zl 0 0 0 (.slice none 0 0) w4 :=
    ⟨World.ownsRow_nil _ _ _ _, (t1.chg (Chg.of_below b3 []) (by simp)).chg G (by simp), t2.chg G (by simp), t3, C4, b1.size, b2.size, b3.size, b4.size⟩
  clear t1 t2 t3 B1 B2 b2 b3 b4 C3 C4 G
  go_wp2_with fail
  go_loopw [12, 13] (fun x i wr => ∃ (k D : Nat) (a : Option Addr) (c : Nat), k ≤ len2 ∧ D ≤ 300 * k ∧ i = .int .i64 k ∧ x = .slice a D c ∧ S1 w w1.heap.size w2.heap.size w3.heap.size w4.heap.size p q r v u t zp zl D 0 0 (.slice a D c) wr) (fun _ i _ => len2 - (intOf i).toNat)
  case atStart => exact ⟨0, 0, none, 0, by omega, by omega, rfl, rfl, s0⟩
  case round =>
    clear s0
    obtain ⟨k, D, a, c, hk, hD, rfl, rfl, s⟩ := hrel
    by_cases hlt : k < len2
    · have hki : (k : Int) < len2 := by omega
      obtain ⟨x, hx, hcx⟩ := (A2.below s.C.below).at k hlt
      subst hx
      generalize hz : cs.getD k 0 = z at hcx
      clear hz
      by_cases hr : 1 ≤ z ∧ z ≤ 300
      · obtain ⟨hr1, hr2⟩ := hr
        obtain ⟨C, rfl⟩ := Int.eq_ofNat_of_zero_le (show 0 ≤ z by omega)
        have hC1 : 1 ≤ C := by omega
        have hC2 : C ≤ 300 := by omega
        go_wp2_with fail
        refine (pads_at s.P (by omega) C C rfl (by omega) (by omega)).mono ?_
        rintro e w5 ⟨rfl, o5, T5, c5⟩
        have hp2 := s.P.phi
        have e2 := s.h2
        have e3 := s.h3
        have own5 := c5.owns s.all (fun g hg e => by have := s.own g hg; simp at e; omega)
        have hs5 := c5.size
        have hb5 : w4.heap.size ≤ w5.heap.size := by have := s.R.size; omega
        go_wp2_with (at_builtin; refine wpList_append_own _ rfl (.tmp 71) (.tmp 77) 23 rfl w4.heap.size 5 i0 (.int .u8 0) 1 1 Try.underlying23 hi hz0 hz1 hz2 rfl (by decide) _ D _ rfl own5 ⟨wr.heap.size, 0, none⟩ C C ((padsOf zp D C).map (Value.int .u8)) rfl ?n1 ?n2 ?n3 ?n4 ?n5 ?n6 ?_)
        case n1 => simp [padsOf_length]
        case n2 => exact o5.cells (g := wr.heap.size) rfl
        case n3 => exact ints_oneCell _ _
        case n4 => unfold maxLen; omega
        case n5 => omega
        case n6 => exact hb5
        intro x' w6 own6 g6 _
        obtain ⟨a', c', hx'⟩ := owns_shape own6
        have s6 := s.step T5 c5 g6 own6
        rw [hx']
        rw [hx'] at s6
        clear own6 g6 own5 o5 T5 c5 s hx'
        go_wp2
        go_roundw
        case rel => exact ⟨k + 1, D + C, a', c', by omega, by omega, by go_num, rfl, s6⟩
        case measure => simp [intOf]; omega
      · have hr' : z < 1 ∨ (1 ≤ z ∧ 300 < z) := by omega
        clear hr
        rcases hr' with hr1 | ⟨hr1, hr2⟩
        all_goals
          go_wp2_with fail
          refine (first_any _).mono ?_
          rintro e w5 ⟨rfl, b5⟩
          go_wp2
          go_ret
          exact ⟨rfl, (s.C.trans (Chg.of_below b5 []) (by simp)).below⟩
    · have hki : (len2 : Int) ≤ (k : Int) := by omega
      have hD2 : D ≤ 60000 := by omega
      clear hD
      go_upto_region 15 with fail
      go_cut [90] from 79 (fun b wc => b = .bool false ∧ S1 w w1.heap.size w2.heap.size w3.heap.size w4.heap.size p q r v u t zp zl D D 0 (.slice a D c) wc)
      case first =>
        by_cases hD0 : D = 0
        · subst hD0
          go_wp2_with fail
          go_meet
          case rel => exact ⟨rfl, s⟩
        · have hDi : (0 : Int) < (D : Int) := by omega
          go_wp2_with fail
          refine (pads_at s.Q (by omega) D D rfl (by omega) (by omega)).mono ?_
          rintro e w5 ⟨rfl, o5, T5, c5⟩
          rw [Nat.zero_add] at T5
          have s5 := s.drewQ T5 c5
          go_wp2_with fail
          refine (bytes_same (Arg.of_owns o5) (Arg.of_owns s5.all)).mono ?_
          rintro e w6 ⟨rfl, rfl⟩
          go_wp2_with fail
          go_meet
          case rel => exact ⟨rfl, s5⟩
      case rest =>
        clear s
        obtain ⟨rfl, s⟩ := hcut
        go_wp2_with fail
        go_loopw [14] (fun i wq => ∃ m : Nat, m ≤ D ∧ i = .int .i64 m ∧ S1 w w1.heap.size w2.heap.size w3.heap.size w4.heap.size p q r v u t zp zl D D 0 (.slice a D c) wq) (fun i _ => D - (intOf i).toNat)
        case atStart => exact ⟨0, by omega, rfl, s⟩
        case round =>
          clear s
          obtain ⟨m, hm, rfl, s⟩ := hrel
          by_cases hmD : m < D
          · have hmi : (m : Int) < D := by omega
            obtain ⟨x, hx, hcx⟩ := (Arg.of_owns s.all).at m hmD
            subst hx
            rw [padsOf_get zp 0 D m hmD, Nat.zero_add] at hcx
            by_cases hm1 : m < len1
            · have hmj : (m : Int) < len1 := by omega
              have hmd : decide (len1 ≤ m) = false := by simp; omega
              obtain ⟨y, hy, hcy⟩ := (A1.below s.C.below).at m hm1
              subst hy
              generalize hz : zp.getD m 0 = z at hcx hcy
              clear hz
              go_wp2_with fail
              go_quiet (fail)
              go_wp2
              go_roundw
              case rel => exact ⟨m + 1, by omega, by go_num, s.later ((Chg.refl [] _).drewN _)⟩
              case measure => simp [intOf]; omega
            · have hmj : (len1 : Int) ≤ (m : Int) := by omega
              have hmd : decide (m < len1) = false := by simp; omega
              have hzz : zp.getD m 0 = 0 := by rw [List.getD_eq_getElem?_getD, List.getElem?_eq_none (by have := A1.len; omega)]; rfl
              rw [hzz] at hcx
              clear hzz
              go_wp2_with fail
              go_quiet (fail)
              go_wp2
              go_roundw
              case rel => exact ⟨m + 1, by omega, by go_num, s.later ((Chg.refl [] _).drewN _)⟩
              case measure => simp [intOf]; omega
          · have hmi : (D : Int) ≤ (m : Int) := by omega
            by_cases hh : a3 < 0 ∨ 6 < a3
            · have hh' : a3 < 0 ∨ (0 ≤ a3 ∧ 6 < a3) := by omega
              have HH : Hid (a3 < 0 ∨ 6 < a3) := hh
              clear hh
              rcases hh' with h1 | ⟨h1, h2⟩
              all_goals
                go_wp2_with fail
                refine (draw_bad r _ a3 HH.out).mono ?_
                rintro e w5 ⟨rfl, rfl⟩
                go_wp2_with fail
                refine (first_any _).mono ?_
                rintro e w6 ⟨rfl, b6⟩
                have s6 := s.later (Chg.of_below b6 [])
                go_wp2_with fail
                refine (drawn_tp s6.R).mono ?_
                rintro e w7 ⟨rfl, rfl⟩
                go_wp2
                go_ret
                exact ⟨rfl, s6.C.below⟩
            · obtain ⟨h, rfl⟩ := Int.eq_ofNat_of_zero_le (show 0 ≤ a3 by omega)
              have h6 : h ≤ 6 := by omega
              have h6i : (h : Int) ≤ 6 := by omega
              clear hh
              obtain ⟨P, hP, hP1, hP2, HP⟩ := pow_ex h h6
              go_wp2_with fail
              go_loopw [17] (fun i wq => ∃ j : Nat, j ≤ len0 ∧ i = .int .i64 j ∧ S1 w w1.heap.size w2.heap.size w3.heap.size w4.heap.size p q r v u t zp zl D D j (.slice a D c) wq) (fun i _ => len0 - (intOf i).toNat)
              case atStart => exact ⟨0, by omega, rfl, s⟩
              case round =>
                clear s
                obtain ⟨j, hj, rfl, s⟩ := hrel
                by_cases hj0 : j < len0
                · have hji : (j : Int) < len0 := by omega
                  obtain ⟨y, hy, hcy0⟩ := A0.at j hj0
                  subst hy
                  obtain ⟨N, hN, hN0, hNP, hNz⟩ := leaf_one zl j h P HP.out
                  generalize hz : zl.getD j 0 = z at hcy0 hNz
                  clear hz
                  go_wp2_with fail
                  refine (draw_at j j rfl zl s.R (by omega) h h rfl h6 N hN).mono ?_
                  rintro e w5 ⟨rfl, T5, c5⟩
                  have s5 := s.drewR T5 c5
                  have hcy := s5.C.cell hcy0 (by simp)
                  clear hN T5 c5 s hcy0
                  rcases Int.lt_or_le z 0 with hz1 | hz1
                  · clear hNz
                    go_wp2
                    go_roundw
                    case rel => exact ⟨j + 1, by omega, by go_num, s5⟩
                    case measure => simp [intOf]; omega
                  · replace hNz := hNz hz1
                    go_wp2
                    go_roundw
                    case rel => exact ⟨j + 1, by omega, by go_num, s5⟩
                    case measure => simp [intOf]; omega
                · have hji : (len0 : Int) ≤ (j : Int) := by omega
                  have hjl : Hid (zl.length ≤ j) := by have := A0.len; show zl.length ≤ j; omega
                  have hleft : max ((zl.length : Int) - (j : Int)) 0 = 0 := by have := hjl.out; omega
                  go_wp2_with fail
                  obtain ⟨p0, hp0⟩ : ∃ p0 : World → Prop, ∀ w', p0 w' ↔ S1 w w1.heap.size w2.heap.size w3.heap.size w4.heap.size p q r v u t zp zl D D j (.slice a D c) w' := ⟨_, fun _ => Iff.rfl⟩
                  have sd : p0 (World.drew wr) := (hp0 _).2 (s.later ((Chg.refl [] _).drew))
                  have hS : ∀ x : InC p0, S1 w w1.heap.size w2.heap.size w3.heap.size w4.heap.size p q r v u t zp zl D D j (.slice a D c) x.w := fun x => (hp0 _).1 x.h
                  have inst : Nonempty (InC p0) := ⟨⟨_, sd⟩⟩
                  have hback : ∀ w', S1 w w1.heap.size w2.heap.size w3.heap.size w4.heap.size p q r v u t zp zl D D j (.slice a D c) w' → ∃ x : InC p0, w' = x.w := fun w' h' => ⟨⟨w', (hp0 _).2 h'⟩, rfl⟩
                  have k7 : ∀ x : InC p0, Calls Try.prog 7 #[] x.w fun e w' => e = .returned (.bool true) ∧ ∃ y : InC p0, w' = y.w := fun x => (first_any x.w).mono fun e w' hh => ⟨hh.1, hback w' ((hS x).later (Chg.of_below hh.2 []))⟩
                  have k15 : ∀ x : InC p0, Calls Try.prog 15 #[.pointer (some ⟨r, 0, none⟩)] x.w fun e w' => e = .returned (.int .i64 0) ∧ ∃ y : InC p0, w' = y.w := fun x => (left_tp (hS x).R (by omega)).mono fun e w' hh => by
                    obtain ⟨h1, mm, rfl⟩ := hh
                    exact ⟨h1.trans (ret_int hleft), hback _ ((hS x).later ((Chg.refl [] _).drewN mm))⟩
                  have k14p : ∀ x : InC p0, Calls Try.prog 14 #[.pointer (some ⟨p, 0, none⟩)] x.w fun e w' => e = .returned (.int .i64 D) ∧ ∃ y : InC p0, w' = y.w := fun x => (drawn_tp (hS x).P).mono fun e w' hh => ⟨hh.1, hback w' (by rw [hh.2]; exact hS x)⟩
                  have k14q : ∀ x : InC p0, Calls Try.prog 14 #[.pointer (some ⟨q, 0, none⟩)] x.w fun e w' => e = .returned (.int .i64 D) ∧ ∃ y : InC p0, w' = y.w := fun x => (drawn_tp (hS x).Q).mono fun e w' hh => ⟨hh.1, hback w' (by rw [hh.2]; exact hS x)⟩
                  have K7 := hid_mk k7
                  have K15 := hid_mk k15
                  have K14p := hid_mk k14p
                  have K14q := hid_mk k14q
                  have HS := hid_mk hS
                  clear k7 k15 k14p k14q hS hp0 hback
                  refine region_in p0 (by kernel_rfl) (by kernel_rfl) sd ?_
                  clear sd
                  repeat (go_big_quiet_step (first | (go_at_call 7; exact K7.out _) | (go_at_call 15; exact K15.out _) | (go_at_call 14; exact K14p.out _) | (go_at_call 14; exact K14q.out _)))
                  refine wpQuiet_nil ?_
                  intro w' hw'
                  obtain ⟨x, rfl⟩ := hw'
                  go_wp2
                  go_ret
                  exact ⟨rfl, (HS.out x).C.below⟩

theorem walk (a0 : Option Addr) (len0 cap0 : Nat) (z0 : List Int) (a1 : Option Addr) (len1 cap1 : Nat) (z1 : List Int) (a2 : Option Addr) (len2 cap2 : Nat) (z2 : List Int) (a3 : Int) (w : World) (w0 : IsRow .i64 w a0 len0 cap0 z0) (w1 : IsRow .u8 w a1 len1 cap1 z1) (w2 : IsRow .i64 w a2 len2 cap2 z2) (w3 : (Lit.int .i64 a3).wf = true) :
    Calls Try.prog 4 #[.slice a0 len0 cap0, .slice a1 len1 cap1, .slice a2 len2 cap2, .int .i64 a3] w fun e w' => e = .returned (.bool true) ∧ Below w.heap.size w w' := by
  by_cases hh : 2000 < len0 ∨ 2000 < len1 ∨ 200 < len2
  · exact early a0 len0 cap0 a1 len1 cap1 a2 len2 cap2 a3 w hh
  · exact late a0 len0 cap0 (z0.take len0) a1 len1 cap1 (z1.take len1) a2 len2 cap2 (z2.take len2) a3 w (arg_of_row w0) (arg_of_row w1) (arg_of_row w2) (by omega) (by omega) (by omega)

/-! ### THE ROW's STEP: WRITTEN OUT: LEAVE IT -/
set_option maxRecDepth 100000 in
theorem lifted (os : Os) (started : os.Started) (H : Type) (enc : TypeId × Value → H) :
    ReturnsInHanded {} Try.checked os 4 .any (Rows.tapeCutsSpec.pre6 enc Try.prog Try.f4 Rows.tapeCutsRow.domain false) (Rows.tapeCutsSpec.post enc Try.prog Try.f4 false true false false) := by
  refine returnsInHanded_of_change (C := Try.checked) own started (by kernel_rfl) Try.func4
    (ChangeSpec.witness6 (enc := enc) (C := Try.checked) false ⟨#[], #[.slice none 0 0, .slice none 0 0, .slice none 0 0, .int .i64 0], []⟩ 8 (by kernel_rfl) (by kernel_rfl) (by kernel_rfl) (by kernel_rfl)) ?_
  intro W base args ds gs before hval0 hW hcnd _
  have hval : ∀ (j : Nat) t v, Try.f4.params[j]? = some t → args[j]? = some v → Value.okWide Try.prog W .any base t v := hval0
  have hW' := hW
  obtain ⟨p, q, hA0, hV, rfl, hfz, hnd⟩ := hW
  have hA : DataW.TrodAll enc Try.prog W 0 (fun _ => true) true Try.f4.params.toList args.toList ds p := hA0
  rw [Try.params4] at hA hval
  obtain ⟨v0, vs0, d0, ds0, p0, q0, hargs, rfl, rfl, h0, r0⟩ := trodAll_cons hA
  obtain ⟨v1, vs1, d1, ds1, p1, q1, rfl, rfl, rfl, h1, r1⟩ := trodAll_cons r0
  obtain ⟨v2, vs2, d2, ds2, p2, q2, rfl, rfl, rfl, h2, r2⟩ := trodAll_cons r1
  obtain ⟨v3, vs3, d3, ds3, p3, q3, rfl, rfl, rfl, h3, r3⟩ := trodAll_cons r2
  obtain ⟨rfl, rfl, rfl⟩ := trodAll_nil r3
  obtain rfl : args = #[v0, v1, v2, v3] := by cases args; simp_all
  obtain ⟨rfl, rfl⟩ := trodVars_none hV
  obtain ⟨a0, len0, cap0, rfl⟩ := okWide_slice Try.underlying22 (hval 0 22 v0 rfl rfl)
  have k0 := h0
  have lt0 : ∀ x ∈ p0, x.block < W.heap.size := by obtain ⟨m, hm⟩ := k0; exact DataW.trod_lt m _ _ _ hm
  obtain ⟨z0, w0⟩ : ∃ zs, IsRow .i64 W a0 len0 cap0 zs := by
    obtain ⟨fuel, hf⟩ := h0
    rcases open_ints Try.underlying22 Try.underlying3 (by kernel_rfl) hf with ⟨hcs, _⟩ | ⟨x, l, c, zs, hcs, _, hl, hm, hz, _, hcell, hwz⟩
    · simp [Value.cells] at hcs
      obtain ⟨rfl, rfl, rfl⟩ := hcs
      exact ⟨[], .inl ⟨rfl, rfl, rfl, rfl⟩⟩
    · simp [Value.cells] at hcs
      obtain ⟨rfl, rfl, rfl⟩ := hcs
      exact ⟨zs, .inr ⟨_, rfl, hl, hm, by simpa using hz, hcell, hwz⟩⟩
  obtain ⟨a1, len1, cap1, rfl⟩ := okWide_slice Try.underlying23 (hval 1 23 v1 rfl rfl)
  have k1 := h1
  have lt1 : ∀ x ∈ p1, x.block < W.heap.size := by obtain ⟨m, hm⟩ := k1; exact DataW.trod_lt m _ _ _ hm
  obtain ⟨z1, w1⟩ : ∃ zs, IsRow .u8 W a1 len1 cap1 zs := by
    obtain ⟨fuel, hf⟩ := h1
    rcases open_ints Try.underlying23 Try.underlying5 (by kernel_rfl) hf with ⟨hcs, _⟩ | ⟨x, l, c, zs, hcs, _, hl, hm, hz, _, hcell, hwz⟩
    · simp [Value.cells] at hcs
      obtain ⟨rfl, rfl, rfl⟩ := hcs
      exact ⟨[], .inl ⟨rfl, rfl, rfl, rfl⟩⟩
    · simp [Value.cells] at hcs
      obtain ⟨rfl, rfl, rfl⟩ := hcs
      exact ⟨zs, .inr ⟨_, rfl, hl, hm, by simpa using hz, hcell, hwz⟩⟩
  obtain ⟨a2, len2, cap2, rfl⟩ := okWide_slice Try.underlying22 (hval 2 22 v2 rfl rfl)
  have k2 := h2
  have lt2 : ∀ x ∈ p2, x.block < W.heap.size := by obtain ⟨m, hm⟩ := k2; exact DataW.trod_lt m _ _ _ hm
  obtain ⟨z2, w2⟩ : ∃ zs, IsRow .i64 W a2 len2 cap2 zs := by
    obtain ⟨fuel, hf⟩ := h2
    rcases open_ints Try.underlying22 Try.underlying3 (by kernel_rfl) hf with ⟨hcs, _⟩ | ⟨x, l, c, zs, hcs, _, hl, hm, hz, _, hcell, hwz⟩
    · simp [Value.cells] at hcs
      obtain ⟨rfl, rfl, rfl⟩ := hcs
      exact ⟨[], .inl ⟨rfl, rfl, rfl, rfl⟩⟩
    · simp [Value.cells] at hcs
      obtain ⟨rfl, rfl, rfl⟩ := hcs
      exact ⟨zs, .inr ⟨_, rfl, hl, hm, by simpa using hz, hcell, hwz⟩⟩
  obtain ⟨a3, rfl, rfl, rfl, w3⟩ := open_int Try.underlying3 (hval 3 3 v3 rfl rfl) h3
  clear hA0 hval0
  refine (walk a0 len0 cap0 z0 a1 len1 cap1 z1 a2 len2 cap2 z2 a3 W w0 w1 w2 w3).mono fun e W' ⟨he, bel⟩ => ?_
  subst he
  exact ⟨_, rfl, _, _, _, [], _, [], hW', trodAll_mk1 (shut_bool Try.underlying4 _), (trodAll_cons_mk (Below.trod laidOut (by kernel_rfl) (of_decide_eq_true (by kernel_rfl)) k0 bel lt0) (trodAll_cons_mk (Below.trod laidOut (by kernel_rfl) (of_decide_eq_true (by kernel_rfl)) k1 bel lt1) (trodAll_cons_mk (Below.trod laidOut (by kernel_rfl) (of_decide_eq_true (by kernel_rfl)) k2 bel lt2) (trodAll_cons_mk (shut_int Try.underlying3 w3) trodAll_mk0)))), rfl, bel.frame _, fun h => by cases h⟩

theorem over : Rows.tapeCutsRow.holds Try.pinned (OpenSpec.ofChange Rows.tapeCutsSpec) :=
  OpenClaim.holds_of_wide 4 Try.f4 rfl rfl rfl rfl rfl rfl rfl ⟨rfl, rfl, rfl, rfl, rfl⟩ rfl rfl rfl rfl rfl (by kernel_rfl) Try.func4 (by kernel_rfl)
    (of_decide_eq_true (by kernel_rfl)) (by unfold Func.isWrapper; first | (rw [if_pos (by decide +kernel)]; kernel_rfl) | (rw [if_neg (by decide +kernel)]; exact ⟨rfl, rfl⟩))
    (fun os started H enc _ => lifted os started H enc)

/-- ████ THE STATEMENT ████ -/
theorem proved : Rows.TapeCutsSaid := over
end Go.Proofs.Ytfandaicnolkeaa.tapeCuts
namespace Go.Proofs.Ytfandaicnolkeaa
theorem tapeCuts_holds : Rows.TapeCutsSaid := tapeCuts.proved
#print axioms tapeCuts_holds
end Go.Proofs.Ytfandaicnolkeaa
