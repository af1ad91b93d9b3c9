/-
  Proved: for every list of leaves, every list of pads and every list of draws the law TapeDraws returns true and leaves its arguments as they were; no condition.
-/
import Derived.Test.YtfandaicnolkeaaRows
import Derived.Test.YtfandaicnolkeaaUni
import Derived.Deep.Cut
import Derived.Deep.CutRange
import Derived.Deep.SlicePairs
import Derived.WalkKit
import Derived.ProofKit
import Derived.OpenShut
import Derived.ShutString
import Derived.ChangeOld
import Derived.Below
namespace Go.Proofs.Ytfandaicnolkeaa.tapeDraws
open Go.ChangeShapes Go.WideShapes Go.ChangeAt Go.RowKit Go.Proofs.Ytfandaicnolkeaa.hp Go.Proofs.Ytfandaicnolkeaa.tp
open Go.ChangeMaps (open_string shut_string)
set_option linter.unusedVariables false

theorem own : ownKnob Try.prog.godebug = none := by kernel_rfl
theorem laidOut : laidOutB Try.prog = true := by kernel_rfl

/-- WHAT THE WALK IS TOLD OF A SLICE OF INTEGERS THAT CAME IN: it is nil; or it leads to a row of 'cap' cells, the numbers 'zs' (the first 'len' are its elements, the rest its spare room), each fitting its kind. -/
def IsRow (k : IntKind) (w : World) (a : Option Addr) (len cap : Nat) (zs : List Int) : Prop :=
  (a = none ∧ len = 0 ∧ cap = 0 ∧ zs = []) ∨
  ∃ x, a = some x ∧ len ≤ cap ∧ cap ≤ maxLen ∧ zs.length = cap ∧ (∀ i, i < zs.length → w.cell? (x.add i) = some (.int k (zs.getD i 0))) ∧ ∀ n ∈ zs, (Lit.int k n).wf = true

/-! ### STEP 1: THE WALK: the Go text returns true, AND WRITES NOTHING THAT WAS THERE: 'Below w.heap.size w w'' (Derived/Below.lean: '.refl', '.alloc', '.drew', '.setCell' at a new block, '.trans'). Open each 'IsRow' by 'rcases' AHEAD of 'go_enter'; part every test ahead of the walk. -/
theorem arg_of_row {k : IntKind} {w : World} {a : Option Addr} {len cap : Nat} {zs : List Int} (h : IsRow k w a len cap zs) : Arg k w a len cap (zs.take len) := by
  rcases h with ⟨rfl, rfl, rfl, rfl⟩ | ⟨x, rfl, hl, hm, hz, hcell, hwz⟩
  · exact .inl ⟨rfl, rfl, rfl, rfl⟩
  · refine .inr ⟨x, rfl, by simp; omega, fun i hi => ?_⟩
    rw [hcell i (by omega), List.getD_eq_getElem?_getD, List.getD_eq_getElem?_getD, List.getElem?_take_of_lt hi]

set_option maxRecDepth 100000 in
theorem early (a0 : Option Addr) (len0 cap0 : Nat) (a1 : Option Addr) (len1 cap1 : Nat) (a2 : Option Addr) (len2 cap2 : Nat) (w : World) (hh : 2000 < len0 ∨ 2000 < len1 ∨ 200 < len2) :
    Calls Try.prog 3 #[.slice a0 len0 cap0, .slice a1 len1 cap1, .slice a2 len2 cap2] w fun e w' => e = .returned (.bool true) ∧ Below w.heap.size w w' := by
  have hc : (2000 < (len0 : Int)) ∨ ((len0 : Int) ≤ 2000 ∧ 2000 < (len1 : Int)) ∨ ((len0 : Int) ≤ 2000 ∧ (len1 : Int) ≤ 2000 ∧ 200 < (len2 : Int)) := by omega
  clear hh
  rcases hc with h1 | ⟨h1, h2⟩ | ⟨h1, h2, h3⟩
  all_goals
    go_enter Try.func3, Try.ntmps3
    go_wp2_with fail
    refine (first_any _).mono ?_
    rintro e w1 ⟨rfl, b1⟩
    go_wp2_with fail
    refine (first_any _).mono ?_
    rintro e w2 ⟨rfl, b2⟩
    go_wp2
    go_ret
    exact ⟨rfl, b1.trans (b2.mono b1.size)⟩

set_option maxRecDepth 100000 in
set_option maxHeartbeats 4000000 in
theorem late (a0 : Option Addr) (len0 cap0 : Nat) (zl : List Int) (a1 : Option Addr) (len1 cap1 : Nat) (zp : List Int) (a2 : Option Addr) (len2 cap2 : Nat) (hs ns : Nat → Int) (w : World)
    (A0 : Arg .i64 w a0 len0 cap0 zl) (A1 : Arg .u8 w a1 len1 cap1 zp) (A2 : OpsArg w a2 len2 cap2 hs ns) (hl0 : len0 ≤ 2000) (hl1 : len1 ≤ 2000) (hl2 : len2 ≤ 200) :
    Calls Try.prog 3 #[.slice a0 len0 cap0, .slice a1 len1 cap1, .slice a2 len2 cap2] w fun e w' => e = .returned (.bool true) ∧ Below w.heap.size w w' := by
  have hc0 : (len0 : Int) ≤ 2000 := by omega
  have hc1 : (len1 : Int) ≤ 2000 := by omega
  have hc2 : (len2 : Int) ≤ 200 := by omega
  have HL0 : Hid (zl.length = len0) := A0.len
  have HL1 : Hid (zp.length = len1) := A1.len
  go_enter Try.func3, Try.ntmps3
  go_wp2_with fail
  refine (first_any _).mono ?_
  rintro e w1 ⟨rfl, b1⟩
  have C1 := Chg.of_below b1 []
  go_wp2_with fail
  refine (copyInts_any a0 len0 cap0 zl w1 (A0.below b1) (by omega)).mono ?_
  rintro e w2 ⟨ai, ci, rfl, oi, b2⟩
  have C2 : Chg [] w w2 := C1.trans (Chg.of_below b2 []) (by simp)
  go_wp2_with fail
  refine (copyBytes_any a1 len1 cap1 zp w2 (A1.below C2.below) (by omega)).mono ?_
  rintro e w3 ⟨ar, cr, rfl, or, b3⟩
  have C3 : Chg [] w w3 := C2.trans (Chg.of_below b3 []) (by simp)
  have oi3 := (Chg.of_below b3 []).owns oi (by simp)
  go_wp2_with fail
  refine (newLeaves_any ai len0 ci zl w3 (Arg.of_owns oi3) (by omega)).mono ?_
  rintro e w4 ⟨p, v, rfl, t4, b4⟩
  have C4 : Chg [] w w4 := C3.trans (Chg.of_below b4 []) (by simp)
  have or4 := (Chg.of_below b4 []).owns or (by simp)
  go_wp2_with fail
  refine (newPads_any ar len1 cr zp w4 (Arg.of_owns or4) (by omega)).mono ?_
  rintro e w5 ⟨q, u, rfl, t5, b5⟩
  have C5 : Chg [] w w5 := C4.trans (Chg.of_below b5 []) (by simp)
  have s5 : S2 w w3.heap.size w4.heap.size w5.heap.size p q w5.heap.size (w5.heap.size + 1) v u (.slice a0 len0 cap0) (.slice a1 len1 cap1) zl zp 0 0 0 0 ((w5.alloc (.cells #[.slice a0 len0 cap0, .int .i64 0] 34)).alloc (.cells #[.slice a1 len1 cap1, .int .i64 0] 37)) := by
    have cc : Chg [] w5 ((w5.alloc (.cells #[.slice a0 len0 cap0, .int .i64 0] 34)).alloc (.cells #[.slice a1 len1 cap1, .int .i64 0] 37)) := ((Chg.refl [] w5).alloc _).alloc _
    refine ⟨(t4.chg (Chg.of_below b5 []) (by simp)).chg cc (by simp), t5.chg cc (by simp), ?_, ?_, C5.trans cc (by simp), ?_, b4.size, b5.size, Nat.le_refl _, by omega⟩
    · rw [Below.heap_alloc _ _ _ (by simp)]
      exact heap_alloc_new w5 _
    · have := heap_alloc_new (w5.alloc (.cells #[.slice a0 len0 cap0, .int .i64 0] 34)) (.cells #[.slice a1 len1 cap1, .int .i64 0] 37)
      simpa using this
    · have := C3.size; exact this
  have oi5 : ((w5.alloc (.cells #[.slice a0 len0 cap0, .int .i64 0] 34)).alloc (.cells #[.slice a1 len1 cap1, .int .i64 0] 37)).ownsRow w1.heap.size 3 1 (.slice ai len0 ci) len0 (zl.map (Value.int .i64)) :=
    (((Chg.of_below b4 []).trans (Chg.of_below b5 []) (by simp)).owns oi3 (by simp)).alloc _ |>.alloc _
  have or5 : ((w5.alloc (.cells #[.slice a0 len0 cap0, .int .i64 0] 34)).alloc (.cells #[.slice a1 len1 cap1, .int .i64 0] 37)).ownsRow w2.heap.size 5 1 (.slice ar len1 cr) len1 (zp.map (Value.int .u8)) :=
    ((Chg.of_below b5 []).owns or4 (by simp)).alloc _ |>.alloc _
  have li := oi.lt
  have lr := or.lt
  have hw1 := b1.size
  have hw2 := b2.size
  have hw3 := b3.size
  clear t4 t5 b2 b3 b4 b5 C2 C3 C4 C5 oi or oi3 or4
  go_wp2_with fail
  go_loopw [13] (fun i wr => ∃ (k : Nat) (xs : List Value), k ≤ len0 ∧ i = .int .i64 k ∧ wr.ownsRow w1.heap.size 3 1 (.slice ai len0 ci) len0 xs ∧ wr.ownsRow w2.heap.size 5 1 (.slice ar len1 cr) len1 (zp.map (Value.int .u8)) ∧
      S2 w w3.heap.size w4.heap.size w5.heap.size p q w5.heap.size (w5.heap.size + 1) v u (.slice a0 len0 cap0) (.slice a1 len1 cap1) zl zp 0 0 0 0 wr) (fun i _ => len0 - (intOf i).toNat)
  case atStart => exact ⟨0, _, by omega, rfl, oi5, or5, s5⟩
  case round =>
    clear oi5 or5 s5
    obtain ⟨k, xs, hk, rfl, oi, or, s⟩ := hrel
    by_cases hlt : k < len0
    · have hki : (k : Int) < len0 := by omega
      obtain ⟨g, hg, ⟨u0, cu⟩, fu, hst⟩ := own_store oi k hlt
      subst hg
      obtain ⟨xs', oi'⟩ := hst (.int .i64 7)
      have hgl := li g rfl
      have or' := (((Chg.refl [g] wr).setCell ⟨g, k, none⟩ (.int .i64 7) (.inl (by simp))).owns or (fun z hz e => by have := lr z hz; simp at e; omega))
      have s' := s.aside ((Chg.refl [g] wr).setCell ⟨g, k, none⟩ (.int .i64 7) (.inl (by simp))) (by omega) (by omega)
      have H1 : Hid _ := oi'
      have H2 : Hid _ := or'
      have H3 : Hid _ := s'
      clear oi or s oi' or' s' hst
      go_wp2
      go_roundw
      case rel => exact ⟨k + 1, xs', by omega, by go_num, H1.out, H2.out, H3.out⟩
      case measure => simp [intOf]; omega
    · have hki : (len0 : Int) ≤ (k : Int) := by omega
      clear oi
      go_wp2_with fail
      go_loopw [14] (fun i wr => ∃ (k : Nat) (xs : List Value), k ≤ len1 ∧ i = .int .i64 k ∧ wr.ownsRow w2.heap.size 5 1 (.slice ar len1 cr) len1 xs ∧
          S2 w w3.heap.size w4.heap.size w5.heap.size p q w5.heap.size (w5.heap.size + 1) v u (.slice a0 len0 cap0) (.slice a1 len1 cap1) zl zp 0 0 0 0 wr) (fun i _ => len1 - (intOf i).toNat)
      case atStart => exact ⟨0, _, by omega, rfl, or, s⟩
      case round =>
        clear or s
        obtain ⟨k1, xs1, hk1, rfl, or, s⟩ := hrel
        by_cases hlt1 : k1 < len1
        · have hki1 : (k1 : Int) < len1 := by omega
          obtain ⟨g, hg, ⟨u0, cu⟩, fu, hst⟩ := own_store or k1 hlt1
          subst hg
          obtain ⟨xs', or'⟩ := hst (.int .u8 7)
          have hgl := lr g rfl
          have s' := s.aside ((Chg.refl [g] wr).setCell ⟨g, k1, none⟩ (.int .u8 7) (.inl (by simp))) (by omega) (by omega)
          have H1 : Hid _ := or'
          have H3 : Hid _ := s'
          clear or s or' s' hst
          go_wp2
          go_roundw
          case rel => exact ⟨k1 + 1, xs', by omega, by go_num, H1.out, H3.out⟩
          case measure => simp [intOf]; omega
        · have hki1 : (len1 : Int) ≤ (k1 : Int) := by omega
          clear or
          go_wp2_with fail
          go_loopg [15] len2 (fun gk i wr => ∃ (k A B : Nat), k ≤ len2 ∧ gk = len2 - k ∧ A ≤ k ∧ B ≤ 3000 * k ∧ i = .int .i64 k ∧
              S2 w w3.heap.size w4.heap.size w5.heap.size p q w5.heap.size (w5.heap.size + 1) v u (.slice a0 len0 cap0) (.slice a1 len1 cap1) zl zp A A B B wr)
          case atStart => exact ⟨0, 0, 0, by omega, by omega, by omega, by omega, rfl, s⟩
          case round =>
            clear s
            obtain ⟨m, A, B, hm, hgk, hA, hB, rfl, s⟩ := hrel
            have HGK : Hid (gk = len2 - m) := hgk
            clear hgk
            by_cases hm2 : m < len2
            · have hmi : (m : Int) < len2 := by omega
              obtain ⟨xo, hxo, cH, cN⟩ := A2.at s.C m hm2
              subst hxo
              generalize hhs : hs m = h at cH
              have HH : Hid (hs m = h) := hhs
              generalize hns : ns m = n at cN
              have HN : Hid (ns m = n) := hns
              clear hhs hns
              go_wp2_with fail
              refine (leaves_uni s.P (by omega) h).mono ?_
              rintro e w6 ⟨rfl, T6, c6⟩
              have s6 := s.drawP T6 c6
              have hc6 := A2.cells s6.C m hm2
              rw [HH.out, HN.out] at hc6
              obtain ⟨cH6, cN6⟩ := hc6
              go_wp2_with fail
              refine (refLeaves_uni s6.X (A0.below s6.C.below) (by omega) (by omega) h).mono ?_
              rintro e w7 ⟨rfl, T7, c7⟩
              have s7 := s6.drawX T7 c7
              have hA' := drN_le h
              obtain ⟨A', hA'e⟩ : ∃ A', A' = A + drN h := ⟨_, rfl⟩
              rw [← hA'e] at s7
              have hA2 : A' ≤ m + 1 := by omega
              generalize drV zl A h = rv
              generalize drT A h = rt
              clear T6 c6 s6 T7 c7 cH cN cH6 cN6 s hA' hA'e hA
              go_upto_region 23 with fail
              go_cut [133] from 74 to 181 (fun b wc => b = .bool false ∧ S2 w w3.heap.size w4.heap.size w5.heap.size p q w5.heap.size (w5.heap.size + 1) v u (.slice a0 len0 cap0) (.slice a1 len1 cap1) zl zp A' A' B B wc)
              case first =>
                obtain ⟨R, hR⟩ : ∃ R : Int, ((A' : Int) ≤ len0 ∧ R = (len0 : Int) - A') ∨ ((len0 : Int) < A' ∧ R = 0) := by
                  by_cases hA3 : (A' : Int) ≤ len0
                  · exact ⟨_, .inl ⟨hA3, rfl⟩⟩
                  · exact ⟨_, .inr ⟨by omega, rfl⟩⟩
                have hRm : max ((zl.length : Int) - (A' : Int)) 0 = R := by have := HL0.out; omega
                obtain ⟨p0, hp0⟩ : ∃ p0 : World → Prop, ∀ w', p0 w' ↔ S2 w w3.heap.size w4.heap.size w5.heap.size p q w5.heap.size (w5.heap.size + 1) v u (.slice a0 len0 cap0) (.slice a1 len1 cap1) zl zp A' A' B B w' := ⟨_, fun _ => Iff.rfl⟩
                have sd : p0 (World.drew w7) := (hp0 _).2 (s7.later ((Chg.refl [] _).drew))
                have hS : ∀ x : InC p0, S2 w w3.heap.size w4.heap.size w5.heap.size p q w5.heap.size (w5.heap.size + 1) v u (.slice a0 len0 cap0) (.slice a1 len1 cap1) zl zp A' A' B B x.w := fun x => (hp0 _).1 x.h
                have inst : Nonempty (InC p0) := ⟨⟨_, sd⟩⟩
                have hback : ∀ w', S2 w w3.heap.size w4.heap.size w5.heap.size p q w5.heap.size (w5.heap.size + 1) v u (.slice a0 len0 cap0) (.slice a1 len1 cap1) zl zp A' A' B B w' → ∃ x : InC p0, w' = x.w := fun w' h' => ⟨⟨w', (hp0 _).2 h'⟩, rfl⟩
                have K15 : Hid (∀ x : InC p0, Calls Try.prog 15 #[.pointer (some ⟨p, 0, none⟩)] x.w fun e w' => e = .returned (.int .i64 R) ∧ ∃ y : InC p0, w' = y.w) := fun x => (left_tp (hS x).P (by omega)).mono fun e w' hh => by
                  obtain ⟨h1, mm, rfl⟩ := hh
                  exact ⟨h1.trans (ret_int hRm), hback _ ((hS x).later ((Chg.refl [] _).drewN mm))⟩
                have K14 : Hid (∀ x : InC p0, Calls Try.prog 14 #[.pointer (some ⟨p, 0, none⟩)] x.w fun e w' => e = .returned (.int .i64 A') ∧ ∃ y : InC p0, w' = y.w) := fun x => (drawn_tp (hS x).P).mono fun e w' hh => ⟨hh.1, hback w' (by rw [hh.2]; exact hS x)⟩
                have cX : ∀ x : InC p0, x.w.cell? ⟨w5.heap.size, 1, none⟩ = some (.int .i64 A') := fun x => (cells2 (hS x).X).2.1
                have HS : Hid _ := hS
                clear hS hp0 hback s7 hRm
                rcases hR with ⟨hR1, hR2⟩ | ⟨hR1, hR2⟩
                all_goals
                  subst hR2
                  refine region_in p0 (by kernel_rfl) (by kernel_rfl) sd ?_
                  repeat (go_big_quiet_step (first | (go_at_call 15; exact K15.out _) | (go_at_call 14; exact K14.out _)))
                  refine wpQuiet_nil ?_
                  intro w' hw'
                  obtain ⟨x, rfl⟩ := hw'
                  go_wp2_with fail
                  go_meet
                  case rel => exact ⟨rfl, HS.out x⟩
              case rest =>
                clear s7
                obtain ⟨rfl, s⟩ := hcut
                have hcc := A2.cells s.C m hm2
                rw [HH.out, HN.out] at hcc
                obtain ⟨cH, cN⟩ := hcc
                by_cases hn3 : 3000 < n
                · go_wp2
                  go_roundg (len2 - (m + 1))
                  case measure => have := HGK.out; omega
                  case rel => exact ⟨m + 1, A', B, by omega, rfl, by omega, by omega, by go_num, s⟩
                · have hn4 : n ≤ 3000 := by omega
                  go_wp2_with fail
                  obtain ⟨B', hB'⟩ : ∃ B', B' = B + pdN n := ⟨_, rfl⟩
                  have hpd := pdN_le n hn4
                  have HB' : Hid (B' = B + pdN n) := hB'
                  clear hB'
                  have hBi : B' ≤ 1000000 := by have := HB'.out; omega
                  obtain ⟨R, hR⟩ : ∃ R : Int, ((B' : Int) ≤ len1 ∧ R = (len1 : Int) - B') ∨ ((len1 : Int) < B' ∧ R = 0) := by
                    by_cases hB3 : (B' : Int) ≤ len1
                    · exact ⟨_, .inl ⟨hB3, rfl⟩⟩
                    · exact ⟨_, .inr ⟨by omega, rfl⟩⟩
                  have HR : Hid (max ((zp.length : Int) - (B' : Int)) 0 = R) := by have := HL1.out; show max _ _ = _; omega
                  obtain ⟨pN, hpN⟩ : ∃ pN : World → Prop, ∀ w', pN w' ↔ w'.cell? ⟨(xo.add (m * 2)).block, (xo.add (m * 2)).off + 1, none⟩ = some (.int .i64 n) := ⟨_, fun _ => Iff.rfl⟩
                  obtain ⟨pY, hpY⟩ : ∃ pY : World → Prop, ∀ w', pY w' ↔ w'.cell? ⟨w5.heap.size + 1, 1, none⟩ = some (.int .i64 B') := ⟨_, fun _ => Iff.rfl⟩
                  obtain ⟨pT, hpT⟩ : ∃ pT : World → Prop, ∀ w', pT w' ↔ True := ⟨_, fun _ => Iff.rfl⟩
                  have hxN : ∀ x : far.InC pN, x.w.cell? ⟨(xo.add (m * 2)).block, (xo.add (m * 2)).off + 1, none⟩ = some (.int .i64 n) := fun x => (hpN _).1 x.h
                  have hxY : ∀ x : far.InC pY, x.w.cell? ⟨w5.heap.size + 1, 1, none⟩ = some (.int .i64 B') := fun x => (hpY _).1 x.h
                  have iN : Nonempty (far.InC pN) := ⟨⟨wc, (hpN _).2 cN⟩⟩
                  have iT : Nonempty (far.InC pT) := ⟨⟨wc, (hpT _).2 trivial⟩⟩
                  have HpN : Hid (∀ w', pN w' ↔ w'.cell? ⟨(xo.add (m * 2)).block, (xo.add (m * 2)).off + 1, none⟩ = some (.int .i64 n)) := hpN
                  have HpY : Hid (∀ w', pY w' ↔ w'.cell? ⟨w5.heap.size + 1, 1, none⟩ = some (.int .i64 B')) := hpY
                  have HpT : Hid (∀ w', pT w' ↔ True) := hpT
                  clear hpN hpY hpT
                  have sd := s.later ((Chg.refl [] wc).drew)
                  have hyw : w5.heap.size + 1 < wc.heap.size := lt_of_block s.Y
                  have HS : Hid _ := sd
                  clear sd s
                  rcases hR with ⟨hR1, hR2⟩ | ⟨hR1, hR2⟩
                  all_goals
                    subst hR2
                    refine far.region_farM (fun κ w' => (κ ≤ 1 → pN w') ∧ (3 ≤ κ → pY w')) [6, 13, 14, 20, 31] (by kernel_rfl) (by kernel_rfl) ⟨fun _ => (HpN.out _).2 cN, fun h => by omega⟩ ?_
                    intro L e1 e2 e3
                    refine far.farO_stretch pN 6 0 0 e1 e2 e3 (by kernel_rfl) (by kernel_rfl) (fun κ w' hk1 hk2 hC => hC.1 (by omega)) ?_
                    simp only [List.take_succ_cons, List.take_zero, List.drop_succ_cons, List.drop_zero, Nat.reduceAdd]
                    repeat (go_big_quiet_step (fail))
                    refine wpQuiet_nil ?_
                    refine far.farO_enter e1 e2 0 rfl rfl 17 #[.pointer (some ⟨q, 0, none⟩), .int .i64 n] (by kernel_rfl) (by kernel_rfl) ?_
                    refine (pads_uni HS.out.Q (by omega) n).mono ?_
                    rintro e w6 ⟨a6, l6, rfl, ar6, fr6, T6, ch6⟩
                    have s6 := HS.out.drawQ T6 ch6
                    have hc6 := A2.cells s6.C m hm2
                    rw [HN.out] at hc6
                    refine ⟨_, rfl, ⟨fun _ => (HpN.out _).2 hc6.2, fun h => by omega⟩, ?_⟩
                    simp only [Act.put, List.setIfInBounds_toArray, List.set_cons_succ, List.set_cons_zero, Nat.reduceAdd]
                    refine far.farO_stretch pN 6 0 1 e1 e2 e3 (by kernel_rfl) (by kernel_rfl) (fun κ w' hk1 hk2 hC => hC.1 (by omega)) ?_
                    simp only [List.take_succ_cons, List.take_zero, List.drop_succ_cons, List.drop_zero, Nat.reduceAdd]
                    repeat (go_big_quiet_step (fail))
                    refine wpQuiet_nil ?_
                    refine far.farO_enter e1 e2 1 rfl rfl 18 #[.pointer (some ⟨w5.heap.size + 1, 0, none⟩), .int .i64 n] (by kernel_rfl) (by kernel_rfl) ?_
                    refine (refPads_uni s6.Y (A1.below s6.C.below) (by omega) (by omega) n).mono ?_
                    rintro e w7 ⟨a7, l7, rfl, ar7, hb7, ch7⟩
                    have s7 := s6.drawY hb7 ch7
                    rw [← HB'.out] at s7
                    have ar67 := ar6.chg ch7 (fun x hx e => by have := fr6 x hx; have hd : (World.drew wc).heap.size = wc.heap.size := rfl; simp at e; omega)
                    have iY : Nonempty (far.InC pY) := ⟨⟨w7, (HpY.out _).2 (cells2 s7.Y).2.1⟩⟩
                    refine ⟨_, rfl, ⟨fun h => by omega, fun h => by omega⟩, ?_⟩
                    simp only [Act.put, List.setIfInBounds_toArray, List.set_cons_succ, List.set_cons_zero, Nat.reduceAdd]
                    refine far.farO_enter e1 e2 2 rfl rfl 16 #[.slice a6 (pdN n) l6, .slice a7 (pdN n) l7] (by kernel_rfl) (by kernel_rfl) ?_
                    refine (bytes_same ar67 ar7).mono ?_
                    rintro e w8 ⟨rfl, rfl⟩
                    refine ⟨_, rfl, ⟨fun h => by omega, fun _ => (HpY.out _).2 (cells2 s7.Y).2.1⟩, ?_⟩
                    simp only [Act.put, List.setIfInBounds_toArray, List.set_cons_succ, List.set_cons_zero, Nat.reduceAdd]
                    refine far.farO_stretch pT 5 3 3 e1 e2 e3 (by kernel_rfl) (by kernel_rfl) (fun κ w' hk1 hk2 hC => (HpT.out _).2 trivial) ?_
                    simp only [List.take_succ_cons, List.take_zero, List.drop_succ_cons, List.drop_zero, Nat.reduceAdd]
                    repeat (go_big_quiet_step (fail))
                    refine wpQuiet_nil ?_
                    refine far.farO_enter e1 e2 3 rfl rfl 14 #[.pointer (some ⟨q, 0, none⟩)] (by kernel_rfl) (by kernel_rfl) ?_
                    refine (drawn_tp s7.Q).mono ?_
                    rintro e w9 ⟨rfl, rfl⟩
                    refine ⟨_, rfl, ⟨fun h => by omega, fun _ => (HpY.out _).2 (cells2 s7.Y).2.1⟩, ?_⟩
                    simp only [Act.put, List.setIfInBounds_toArray, List.set_cons_succ, List.set_cons_zero, Nat.reduceAdd]
                    refine far.farO_stretch pY 10 3 4 e1 e2 e3 (by kernel_rfl) (by kernel_rfl) (fun κ w' hk1 hk2 hC => hC.2 (by omega)) ?_
                    simp only [List.take_succ_cons, List.take_zero, List.drop_succ_cons, List.drop_zero, Nat.reduceAdd]
                    repeat (go_big_quiet_step (fail))
                    refine wpQuiet_nil ?_
                    refine far.farO_enter e1 e2 4 rfl rfl 15 #[.pointer (some ⟨q, 0, none⟩)] (by kernel_rfl) (by kernel_rfl) ?_
                    refine (left_tp s7.Q (by omega)).mono ?_
                    rintro e w10 ⟨rfl, mm, rfl⟩
                    rw [HR.out]
                    refine ⟨_, rfl, ⟨fun h => by omega, fun _ => (HpY.out _).2 (cells2 s7.Y).2.1⟩, ?_⟩
                    simp only [Act.put, List.setIfInBounds_toArray, List.set_cons_succ, List.set_cons_zero, Nat.reduceAdd]
                    refine far.farO_stretch pY 10 4 5 e1 e2 e3 (by kernel_rfl) (by kernel_rfl) (fun κ w' hk1 hk2 hC => hC.2 (by omega)) ?_
                    simp only [List.take_succ_cons, List.take_zero, List.drop_succ_cons, List.drop_zero, Nat.reduceAdd]
                    repeat (go_big_quiet_step (fail))
                    refine wpQuiet_nil ?_
                    refine far.farO_nil ?_
                    go_wp2
                    go_roundg (len2 - (m + 1))
                    case measure => have := HGK.out; omega
                    case rel => exact ⟨m + 1, A', B', by omega, rfl, by omega, by have := HB'.out; omega, by go_num, s7.later ((Chg.refl [] _).drewN mm)⟩
            · have hmi : (len2 : Int) ≤ (m : Int) := by omega
              go_wp2_with fail
              refine (first_any _).mono ?_
              rintro e w6 ⟨rfl, b6⟩
              go_wp2
              go_ret
              exact ⟨rfl, (s.C.trans (Chg.of_below b6 []) (by simp)).below⟩

theorem walk (a0 : Option Addr) (len0 cap0 : Nat) (z0 : List Int) (a1 : Option Addr) (len1 cap1 : Nat) (z1 : List Int) (a2 : Option Addr) (len2 cap2 : Nat) (hs ns : Nat → Int) (w : World) (w0 : IsRow .i64 w a0 len0 cap0 z0) (w1 : IsRow .u8 w a1 len1 cap1 z1) (w2 : OpsArg w a2 len2 cap2 hs ns) :
    Calls Try.prog 3 #[.slice a0 len0 cap0, .slice a1 len1 cap1, .slice a2 len2 cap2] w fun e w' => e = .returned (.bool true) ∧ Below w.heap.size w w' := by
  by_cases hh : 2000 < len0 ∨ 2000 < len1 ∨ 200 < len2
  · exact early a0 len0 cap0 a1 len1 cap1 a2 len2 cap2 w hh
  · exact late a0 len0 cap0 (z0.take len0) a1 len1 cap1 (z1.take len1) a2 len2 cap2 hs ns w (arg_of_row w0) (arg_of_row w1) w2 (by omega) (by omega) (by omega)

/-! ### THE ROW's STEP: WRITTEN OUT: LEAVE IT -/
set_option maxRecDepth 100000 in
theorem lifted (os : Os) (started : os.Started) (H : Type) (enc : TypeId × Value → H) :
    ReturnsInHanded {} Try.checked os 3 .any (Rows.tapeDrawsSpec.pre6 enc Try.prog Try.f3 Rows.tapeDrawsRow.domain false) (Rows.tapeDrawsSpec.post enc Try.prog Try.f3 false true false false) := by
  refine returnsInHanded_of_change (C := Try.checked) own started (by kernel_rfl) Try.func3
    (ChangeSpec.witness6 (enc := enc) (C := Try.checked) false ⟨#[], #[.slice none 0 0, .slice none 0 0, .slice none 0 0], []⟩ 8 (by kernel_rfl) (by kernel_rfl) (by kernel_rfl) (by kernel_rfl)) ?_
  intro W base args ds gs before hval0 hW hcnd _
  have hval : ∀ (j : Nat) t v, Try.f3.params[j]? = some t → args[j]? = some v → Value.okWide Try.prog W .any base t v := hval0
  have hW' := hW
  obtain ⟨p, q, hA0, hV, rfl, hfz, hnd⟩ := hW
  have hA : DataW.TrodAll enc Try.prog W 0 (fun _ => true) true Try.f3.params.toList args.toList ds p := hA0
  rw [Try.params3] at hA hval
  obtain ⟨v0, vs0, d0, ds0, p0, q0, hargs, rfl, rfl, h0, r0⟩ := trodAll_cons hA
  obtain ⟨v1, vs1, d1, ds1, p1, q1, rfl, rfl, rfl, h1, r1⟩ := trodAll_cons r0
  obtain ⟨v2, vs2, d2, ds2, p2, q2, rfl, rfl, rfl, h2, r2⟩ := trodAll_cons r1
  obtain ⟨rfl, rfl, rfl⟩ := trodAll_nil r2
  obtain rfl : args = #[v0, v1, v2] := by cases args; simp_all
  obtain ⟨rfl, rfl⟩ := trodVars_none hV
  obtain ⟨a0, len0, cap0, rfl⟩ := okWide_slice Try.underlying22 (hval 0 22 v0 rfl rfl)
  have k0 := h0
  have lt0 : ∀ x ∈ p0, x.block < W.heap.size := by obtain ⟨m, hm⟩ := k0; exact DataW.trod_lt m _ _ _ hm
  obtain ⟨z0, w0⟩ : ∃ zs, IsRow .i64 W a0 len0 cap0 zs := by
    obtain ⟨fuel, hf⟩ := h0
    rcases open_ints Try.underlying22 Try.underlying3 (by kernel_rfl) hf with ⟨hcs, _⟩ | ⟨x, l, c, zs, hcs, _, hl, hm, hz, _, hcell, hwz⟩
    · simp [Value.cells] at hcs
      obtain ⟨rfl, rfl, rfl⟩ := hcs
      exact ⟨[], .inl ⟨rfl, rfl, rfl, rfl⟩⟩
    · simp [Value.cells] at hcs
      obtain ⟨rfl, rfl, rfl⟩ := hcs
      exact ⟨zs, .inr ⟨_, rfl, hl, hm, by simpa using hz, hcell, hwz⟩⟩
  obtain ⟨a1, len1, cap1, rfl⟩ := okWide_slice Try.underlying23 (hval 1 23 v1 rfl rfl)
  have k1 := h1
  have lt1 : ∀ x ∈ p1, x.block < W.heap.size := by obtain ⟨m, hm⟩ := k1; exact DataW.trod_lt m _ _ _ hm
  obtain ⟨z1, w1⟩ : ∃ zs, IsRow .u8 W a1 len1 cap1 zs := by
    obtain ⟨fuel, hf⟩ := h1
    rcases open_ints Try.underlying23 Try.underlying5 (by kernel_rfl) hf with ⟨hcs, _⟩ | ⟨x, l, c, zs, hcs, _, hl, hm, hz, _, hcell, hwz⟩
    · simp [Value.cells] at hcs
      obtain ⟨rfl, rfl, rfl⟩ := hcs
      exact ⟨[], .inl ⟨rfl, rfl, rfl, rfl⟩⟩
    · simp [Value.cells] at hcs
      obtain ⟨rfl, rfl, rfl⟩ := hcs
      exact ⟨zs, .inr ⟨_, rfl, hl, hm, by simpa using hz, hcell, hwz⟩⟩
  obtain ⟨a2, len2, cap2, rfl⟩ := okWide_slice Try.underlying24 (hval 2 24 v2 rfl rfl)
  have k2 := h2
  have lt2 : ∀ x ∈ p2, x.block < W.heap.size := by obtain ⟨m, hm⟩ := k2; exact DataW.trod_lt m _ _ _ hm
  obtain ⟨hs, ns, w2⟩ : ∃ hs ns, OpsArg W a2 len2 cap2 hs ns := by
    obtain ⟨fuel, hf⟩ := h2
    rcases Deep.open_slice_pairs Try.underlying24 Try.underlying41 (by kernel_rfl) rfl rfl (by kernel_rfl) (by kernel_rfl) hf with ⟨hcs, _⟩ | ⟨x, l, c, mm, nn, V0, V1, D0, D1, P0, P1, hcs, _, hl, hm, hmm, _, hall⟩
    · simp [Value.cells] at hcs
      obtain ⟨rfl, rfl, rfl⟩ := hcs
      exact ⟨fun _ => 0, fun _ => 0, .inl ⟨rfl, rfl, rfl⟩⟩
    · simp [Value.cells] at hcs
      obtain ⟨rfl, rfl, rfl⟩ := hcs
      have each : ∀ i, i < len2 → ∃ z : Int × Int, W.cell? (x.add (i * 2)) = some (.int .i64 z.1) ∧ W.cell? (x.add (i * 2 + 1)) = some (.int .i64 z.2) := by
        intro i hi
        obtain ⟨e0, e1, t0, t1⟩ := hall i (by rw [hmm]; split <;> omega)
        obtain ⟨n0, g0, _, _⟩ := DataW.trod_int Try.underlying3 t0
        obtain ⟨n1, g1, _, _⟩ := DataW.trod_int Try.underlying3 t1
        simp at g0 g1
        exact ⟨(n0, n1), by rw [e0, g0], by rw [e1, g1]⟩
      obtain ⟨z, hz⟩ := Deep.choose_lt each
      exact ⟨fun i => (z i).1, fun i => (z i).2, .inr ⟨x, rfl, hz⟩⟩
  clear hA0 hval0
  refine (walk a0 len0 cap0 z0 a1 len1 cap1 z1 a2 len2 cap2 hs ns W w0 w1 w2).mono fun e W' ⟨he, bel⟩ => ?_
  subst he
  exact ⟨_, rfl, _, _, _, [], _, [], hW', trodAll_mk1 (shut_bool Try.underlying4 _), (trodAll_cons_mk (Below.trod laidOut (by kernel_rfl) (of_decide_eq_true (by kernel_rfl)) k0 bel lt0) (trodAll_cons_mk (Below.trod laidOut (by kernel_rfl) (of_decide_eq_true (by kernel_rfl)) k1 bel lt1) (trodAll_cons_mk (Below.trod laidOut (by kernel_rfl) (of_decide_eq_true (by kernel_rfl)) k2 bel lt2) trodAll_mk0))), rfl, bel.frame _, fun h => by cases h⟩

theorem over : Rows.tapeDrawsRow.holds Try.pinned (OpenSpec.ofChange Rows.tapeDrawsSpec) :=
  OpenClaim.holds_of_wide 3 Try.f3 rfl rfl rfl rfl rfl rfl rfl ⟨rfl, rfl, rfl, rfl, rfl⟩ rfl rfl rfl rfl rfl (by kernel_rfl) Try.func3 (by kernel_rfl)
    (of_decide_eq_true (by kernel_rfl)) (by unfold Func.isWrapper; first | (rw [if_pos (by decide +kernel)]; kernel_rfl) | (rw [if_neg (by decide +kernel)]; exact ⟨rfl, rfl⟩))
    (fun os started H enc _ => lifted os started H enc)

/-- ████ THE STATEMENT ████ -/
theorem proved : Rows.TapeDrawsSaid := over
end Go.Proofs.Ytfandaicnolkeaa.tapeDraws
namespace Go.Proofs.Ytfandaicnolkeaa
theorem tapeDraws_holds : Rows.TapeDrawsSaid := tapeDraws.proved
#print axioms tapeDraws_holds
end Go.Proofs.Ytfandaicnolkeaa
