/-
  Proved: for every list of bytes and every list of bools the law CellsLast returns true and leaves its arguments as they were; no condition.
-/
import Derived.Test.YtjmdjadnllakpaaArgs
import Derived.Below
namespace Go.Proofs.Ytjmdjadnllakpaa.cellsLast
open Go.ChangeShapes Go.WideShapes Go.ChangeAt Go.RowKit Go.Proofs.Ytjmdjadnllakpaa.hp Go.Proofs.Ytjmdjadnllakpaa.md Go.Proofs.Ytjmdjadnllakpaa.st
set_option linter.unusedVariables false

/-- The last of the first bytes that f names, or 0. -/
def lastOf (zs : List Int) (f : Nat → Bool) : Nat → Int
  | 0 => 0
  | i + 1 => if f i then zs.getD i 0 else lastOf zs f i

/-- The store behind k writes to its one cell. -/
structure Lst (zs : List Int) (k : Nat) (m : Mod) : Prop where
  V : m.V = [(.slice none 0 0, [0])]
  sz : m.sz = 1
  len : m.W.length = k
  it : ∀ i, i < k → (m.W.getD i dW).1 = 0 ∧ (m.W.getD i dW).2.2 = [zs.getD i 0]
  up : m.up = true
  ops : m.ops = k
  arm : m.arm = 0
  kp : m.kp = []

theorem redo_last {zs : List Int} {k : Nat} {m : Mod} (h : Lst zs k m) (f : Nat → Bool) (i : Nat) (hi : i ≤ k) : ((redo m.V m.W f i).getD 0 dC).2 = [lastOf zs f i] := by
  induction i with
  | zero => rw [redo, h.V]; rfl
  | succ i ih =>
    have hl := redo_length m.V m.W f i
    rw [h.V] at hl
    rw [redo, lastOf]
    split
    · obtain ⟨h1, h2⟩ := h.it i (by omega)
      rw [h1, List.getD_eq_getElem?_getD, List.getElem?_set_self (by rw [h.V, hl]; simp)]
      exact h2
    · exact ih (by omega)

theorem Lst.fails {zs : List Int} {k : Nat} {m : Mod} (h : Lst zs k m) : m.fails = false := by simp [Mod.fails, h.up, h.arm]

theorem Lst.put {zs : List Int} {k : Nat} {m : Mod} (h : Lst zs k m) (v : Value) : Lst zs (k + 1) (Mod.put m.began (0, v, [zs.getD k 0])) := by
  rw [(began_ok m h.fails).1]
  refine ⟨h.V, h.sz, by simp [Mod.put, h.len], fun i hi => ?_, h.up, by simp [Mod.put, h.ops], by simp [Mod.put, h.arm], h.kp⟩
  simp only [Mod.put, getD_append, h.len]
  by_cases hk : i < k
  · rw [if_pos hk]; exact h.it i hk
  · rw [if_neg hk, if_pos (by omega)]
    have : i = k := by omega
    subst this
    exact ⟨rfl, rfl⟩

theorem Lst.now {zs : List Int} {k : Nat} {m : Mod} (h : Lst zs k m) : (m.now.getD 0 dC).2 = [lastOf zs all k] := by
  unfold Mod.now; rw [h.len]; exact redo_last h all k (Nat.le_refl _)

theorem Lst.left {zs : List Int} {k : Nat} {m : Mod} (h : Lst zs k m) (bs : List Bool) : ((m.crash bs).now.getD 0 dC).2 = [lastOf zs (of bs) k] := by
  show ((redo m.V m.W (of bs) m.W.length).getD 0 dC).2 = _
  rw [h.len]; exact redo_last h (of bs) k (Nat.le_refl _)

theorem lst_new (zs : List Int) : Lst zs 0 (Mod.new 1 1) := ⟨rfl, rfl, rfl, fun i hi => by omega, rfl, rfl, rfl, rfl⟩

theorem early (w : World) (a0 : Option Addr) (len0 cap0 : Nat) (a1 : Option Addr) (len1 cap1 : Nat) (hh : 200 < len0 ∨ 400 < len1) :
    Calls Try.prog 7 #[.slice a0 len0 cap0, .slice a1 len1 cap1] w fun e w' => e = .returned (.bool true) ∧ Below w.heap.size w w' := by
  have hc : (200 < (len0 : Int)) ∨ ((len0 : Int) ≤ 200 ∧ 400 < (len1 : Int)) := by omega
  clear hh
  rcases hc with h1 | ⟨h1, h2⟩
  all_goals
    go_enter Try.func7, Try.ntmps7
    go_wp2_with fail
    refine (first_any _).mono ?_
    rintro e w1 ⟨rfl, k1⟩
    go_wp2_with fail
    refine (new_in 1 1 (by omega) (by omega) (by omega) (by omega)).mono ?_
    rintro e w2 ⟨p, rfl, s2, k2⟩
    go_wp2_with fail
    refine (first_any _).mono ?_
    rintro e w3 ⟨rfl, k3⟩
    go_wp2
    go_ret
    exact ⟨rfl, ((k1.then k2).then k3).below⟩

theorem of_lt (bs : List Bool) (k : Nat) (h : bs.length ≤ k) : of bs k = false := by unfold of; rw [List.getD_eq_getElem?_getD, List.getElem?_eq_none h]; rfl

set_option maxHeartbeats 4000000 in
theorem late (w : World) (a0 : Option Addr) (len0 cap0 : Nat) (zs : List Int) (a1 : Option Addr) (len1 cap1 : Nat) (bs : List Bool) (A0 : Lies (Old w) w (.slice a0 len0 cap0) (zs.map (Value.int .u8))) (hcap : len0 ≤ cap0) (A1 : Lies (Old w) w (.slice a1 len1 cap1) (bs.map Value.bool))
    (h1 : len0 ≤ 200) (h2 : len1 ≤ 400) :
    Calls Try.prog 7 #[.slice a0 len0 cap0, .slice a1 len1 cap1] w fun e w' => e = .returned (.bool true) ∧ Below w.heap.size w w' := by
  have i1 : (len0 : Int) ≤ 200 := by omega
  have i2 : (len1 : Int) ≤ 400 := by omega
  obtain ⟨hz0, hZ⟩ : zs.length = len0 ∧ ∀ k, k < len0 → ∃ x, a0 = some x ∧ Old w x.block ∧ w.cell? (x.add k) = some (.int .u8 (zs.getD k 0)) := by
    obtain ⟨a, c, hv, hh⟩ := A0.slice
    simp at hv
    obtain ⟨rfl, rfl, rfl⟩ := hv
    refine ⟨rfl, fun k hk => hh k _ ?_⟩
    rw [List.getElem?_map, List.getD_eq_getElem?_getD, List.getElem?_eq_getElem hk]
    rfl
  obtain ⟨hb0, hB⟩ : bs.length = len1 ∧ ∀ k, k < len1 → ∃ x, a1 = some x ∧ Old w x.block ∧ w.cell? (x.add k) = some (.bool (bs.getD k false)) := by
    obtain ⟨a, c, hv, hh⟩ := lies_bool A1
    simp at hv
    obtain ⟨rfl, rfl, rfl⟩ := hv
    exact ⟨rfl, hh⟩
  have HZ : Hid (∀ k, k < len0 → ∃ x, a0 = some x ∧ Old w x.block ∧ w.cell? (x.add k) = some (.int .u8 (zs.getD k 0))) := hZ
  have HB : Hid (∀ k, k < len1 → ∃ x, a1 = some x ∧ Old w x.block ∧ w.cell? (x.add k) = some (.bool (bs.getD k false))) := hB
  have HZL : Hid (zs.length = len0) := hz0
  have HBL : Hid (bs.length = len1) := hb0
  clear hZ hB hz0 hb0 A0
  go_enter Try.func7, Try.ntmps7
  go_wp2_with fail
  refine (first_any _).mono ?_
  rintro e w1 ⟨rfl, k1⟩
  go_wp2_with fail
  refine (new_in 1 1 (by omega) (by omega) (by omega) (by omega)).mono ?_
  rintro e w2 ⟨p, rfl, s2, k2⟩
  have z1 := k1.size
  have z2 := k2.size
  have K2 : Chg no w w2 := k1.then k2
  have S2 : ∃ F m, St w2 p F m ∧ Lst zs 0 m ∧ ∀ k, F k → w.heap.size ≤ k := ⟨_, _, s2, lst_new zs, fun k hk => by omega⟩
  clear s2 k1 k2
  go_wp2_with fail
  go_loopw [7, 9] (fun b i wr => ∃ (k : Nat) (F : Nat → Prop) (m : Mod), k ≤ len0 ∧ b = .int .u8 (lastOf zs (of bs) k) ∧ i = .int .i64 (k : Int) ∧ St wr p F m ∧ Lst zs k m ∧ (∀ k, F k → w.heap.size ≤ k) ∧ Chg no w wr) (fun _ i _ => len0 - (intOf i).toNat)
  case atStart =>
    obtain ⟨F, m, s, h, hF⟩ := S2
    exact ⟨0, F, m, by omega, rfl, rfl, s, h, hF, K2⟩
  case round =>
    clear S2 K2
    obtain ⟨k, F, m, hk, rfl, rfl, s, hL, hF, C⟩ := hrel
    by_cases hkn : k < len0
    · have hki : (k : Int) < len0 := by omega
      obtain ⟨x, rfl, hx, q0⟩ := HZ.out k hkn
      have hcapk : k + 1 ≤ cap0 := by omega
      have hcapi : (k : Int) + 1 ≤ cap0 := by omega
      have q1 := C.cell q0 id
      have L1 : Lies (Old w) wr (.slice (some (x.add k)) 1 (cap0 - k)) (([zs.getD k 0] : List Int).map (Value.int .u8)) := .inr ⟨x.add k, cap0 - k, rfl, fun _ => by rw [add_block]; exact hx, fun i u hu => by
        match i, hu with
        | 0, hu =>
          simp at hu
          subst hu
          rw [Deep.add_add]
          simpa using q1⟩
      have HW := write_ok s (by have := hL.ops; omega) (by rw [hL.kp]; simp) hL.fails 0 (by rw [hL.V]; simp) (.slice (some (x.add k)) 1 (cap0 - k)) [zs.getD k 0] (by rw [hL.sz]; rfl) L1 (fun j hj => ⟨fun e => by have := hF j e; exact absurd hj (Nat.not_lt.2 this), Nat.lt_of_lt_of_le hj C.size⟩)
      clear L1
      go_wp2_with fail
      refine HW.mono ?_
      rintro e w5 ⟨v5, rfl, s5, c5⟩
      have hL5 := hL.put v5
      have C5 : Chg no w w5 := C.trans c5 (fun j hj => .inr (hF j hj))
      have hF5 : ∀ j, Wid F wr w5 j → w.heap.size ≤ j := fun j hj => by have := C.size; rcases hj with hj | hj; exact hF j hj; omega
      have q5 := C5.cell q0 id
      have P5 := peek_in s5 0 (by rw [hL5.V]; simp)
      rw [hL5.now, hL5.sz] at P5
      have hall : lastOf zs all (k + 1) = zs.getD k 0 := rfl
      rw [hall] at P5
      have FL := fun (w' : World) (c : Chg no w5 w') => flight_any (s5.same c)
      rw [hL5.len] at FL
      have SS : Hid (∀ w', Chg no w5 w' → St w' p (Wid F wr w5) (Mod.put m.began (0, v5, [zs.getD k 0])) ∧ Chg no w w') := fun w' c => ⟨s5.same c, C5.then c⟩
      clear HW s hL s5 c5 hall
      by_cases hkl : k < len1
      · obtain ⟨y, rfl, hy, r0⟩ := HB.out k hkl
        have r5 := C5.cell r0 id
        have hkli : (k : Int) < len1 := by omega
        obtain ⟨kb, hkb⟩ : ∃ b, bs.getD k false = b := ⟨_, rfl⟩
        rw [hkb] at r5
        have hof : of bs k = kb := hkb
        rcases kb with _ | _
        · have hnext : lastOf zs (of bs) (k + 1) = lastOf zs (of bs) k := by rw [lastOf, hof]; rfl
          rw [← hnext]
          clear hof hkb hnext
          go_wp2_with fail
          refine P5.mono ?_
          rintro e w6 ⟨rfl, g6, c6⟩
          obtain ⟨t6, _⟩ := row_cell g6 0 _ rfl
          go_wp2_with fail
          refine (FL _ c6).mono ?_
          rintro e w7 ⟨rfl, rfl⟩
          go_wp2
          go_roundw
          case rel => exact ⟨k + 1, _, _, by omega, rfl, by go_num, (SS.out _ c6).1, hL5, hF5, (SS.out _ c6).2⟩
          case measure => simp [intOf]; omega
        · have hnext : lastOf zs (of bs) (k + 1) = zs.getD k 0 := by rw [lastOf, hof]; rfl
          clear hof hkb
          go_wp2_with fail
          refine P5.mono ?_
          rintro e w6 ⟨rfl, g6, c6⟩
          obtain ⟨t6, _⟩ := row_cell g6 0 _ rfl
          go_wp2_with fail
          refine (FL _ c6).mono ?_
          rintro e w7 ⟨rfl, rfl⟩
          go_wp2
          go_roundw
          case rel => exact ⟨k + 1, _, _, by omega, by rw [hnext, List.getD_eq_getElem?_getD], by go_num, (SS.out _ c6).1, hL5, hF5, (SS.out _ c6).2⟩
          case measure => simp [intOf]; omega
      · have hkli : (len1 : Int) ≤ k := by omega
        have hof := of_lt bs k (by have := HBL.out; omega)
        have hnext : lastOf zs (of bs) (k + 1) = lastOf zs (of bs) k := by rw [lastOf, hof]; rfl
        rw [← hnext]
        clear hof hnext
        go_wp2_with fail
        refine P5.mono ?_
        rintro e w6 ⟨rfl, g6, c6⟩
        obtain ⟨t6, _⟩ := row_cell g6 0 _ rfl
        go_wp2_with fail
        refine (FL _ c6).mono ?_
        rintro e w7 ⟨rfl, rfl⟩
        go_wp2
        go_roundw
        case rel => exact ⟨k + 1, _, _, by omega, rfl, by go_num, (SS.out _ c6).1, hL5, hF5, (SS.out _ c6).2⟩
        case measure => simp [intOf]; omega
    · obtain rfl : k = len0 := by omega
      have hki : (k : Int) ≤ (k : Int) := by omega
      have HC := crash_any s hL.up (by have := hL.ops; omega) (.slice a1 len1 cap1) bs (A1.chg C (fun _ _ h => h)) (by have := HBL.out; omega) (fun j hj e => by have := hF j e; exact absurd hj (Nat.not_lt.2 this))
      go_wp2_with fail
      refine HC.mono ?_
      rintro e w5 ⟨rfl, s5, c5⟩
      have C5 : Chg no w w5 := C.trans c5 (fun j hj => .inr (hF j hj))
      go_wp2_with fail
      refine (crash_down s5 rfl a1 len1 cap1).mono ?_
      rintro e w6 ⟨rfl, rfl⟩
      have P6 := peek_in s5 0 (by simp [Mod.crash, redo_length, hL.V])
      rw [hL.left bs] at P6
      have hs1 : (m.crash bs).sz = 1 := hL.sz
      rw [hs1] at P6
      go_wp2_with fail
      refine P6.mono ?_
      rintro e w7 ⟨rfl, g7, c7⟩
      go_wp2_with fail
      refine (first_any _).mono ?_
      rintro e w8 ⟨rfl, c8⟩
      have g8 := c8.heap g7 id
      obtain ⟨t8, _⟩ := row_cell g8 0 _ rfl
      have s8 := (s5.same c7).same c8
      go_wp2_with fail
      refine (flight_any s8).mono ?_
      rintro e w9 ⟨rfl, rfl⟩
      go_wp2_with fail
      refine (up_any s8).mono ?_
      rintro e wa ⟨rfl, rfl⟩
      go_wp2
      go_ret
      exact ⟨rfl, ((C5.then c7).then c8).below⟩

theorem walk (w : World) (a0 : Option Addr) (len0 cap0 : Nat) (zs : List Int) (a1 : Option Addr) (len1 cap1 : Nat) (bs : List Bool) (A0 : Lies (Old w) w (.slice a0 len0 cap0) (zs.map (Value.int .u8))) (c0 : len0 ≤ cap0) (A1 : Lies (Old w) w (.slice a1 len1 cap1) (bs.map Value.bool)) (c1 : len1 ≤ cap1) :
    Calls Try.prog 7 #[.slice a0 len0 cap0, .slice a1 len1 cap1] w fun e w' => e = .returned (.bool true) ∧ Below w.heap.size w w' := by
  by_cases hh : 200 < len0 ∨ 400 < len1
  · exact early w a0 len0 cap0 a1 len1 cap1 hh
  · exact late w a0 len0 cap0 zs a1 len1 cap1 bs A0 c0 A1 (by omega) (by omega)

theorem own : ownKnob Try.prog.godebug = none := by kernel_rfl
theorem laidOut : laidOutB Try.prog = true := by kernel_rfl

set_option maxRecDepth 100000 in
theorem lifted (os : Os) (started : os.Started) (H : Type) (enc : TypeId × Value → H) :
    ReturnsInHanded {} Try.checked os 7 .any (Rows.cellsLastSpec.pre6 enc Try.prog Try.f7 Rows.cellsLastRow.domain false) (Rows.cellsLastSpec.post enc Try.prog Try.f7 false true false false) := by
  refine returnsInHanded_of_change (C := Try.checked) own started (by kernel_rfl) Try.func7
    (ChangeSpec.witness6 (enc := enc) (C := Try.checked) false ⟨#[], #[.slice none 0 0, .slice none 0 0], []⟩ 8 (by kernel_rfl) (by kernel_rfl) (by kernel_rfl) (by kernel_rfl)) ?_
  intro W base args ds gs before hval0 hW hcnd _
  have hval : ∀ (j : Nat) t v, Try.f7.params[j]? = some t → args[j]? = some v → Value.okWide Try.prog W .any base t v := hval0
  have hW' := hW
  obtain ⟨p, q, hA0, hV, rfl, hfz, hnd⟩ := hW
  have hA : DataW.TrodAll enc Try.prog W 0 (fun _ => true) true Try.f7.params.toList args.toList ds p := hA0
  rw [Try.params7] at hA hval
  obtain ⟨v0, vs0, d0, ds0, p0, q0, hargs, rfl, rfl, h0, r0⟩ := trodAll_cons hA
  obtain ⟨v1, vs1, d1, ds1, p1, q1, rfl, rfl, rfl, h1, r1⟩ := trodAll_cons r0
  obtain ⟨rfl, rfl, rfl⟩ := trodAll_nil r1
  obtain rfl : args = #[v0, v1] := by cases args; simp_all
  obtain ⟨rfl, rfl⟩ := trodVars_none hV
  obtain ⟨a0, len0, cap0, rfl⟩ := okWide_slice Try.underlying32 (hval 0 32 v0 rfl rfl)
  have k0 := h0
  have lt0 : ∀ x ∈ p0, x.block < W.heap.size := by obtain ⟨m, hm⟩ := k0; exact DataW.trod_lt m _ _ _ hm
  have c0 : len0 ≤ cap0 := by obtain ⟨m, hm⟩ := k0; exact (open_cap Try.underlying32 hm).1
  obtain ⟨z0, w0⟩ := (by obtain ⟨fuel, hf⟩ := h0; exact open_bytes hf : ∃ z : List Int, Lies (Old W) W (.slice a0 len0 cap0) (z.map (Value.int .u8)))
  obtain ⟨a1, len1, cap1, rfl⟩ := okWide_slice Try.underlying33 (hval 1 33 v1 rfl rfl)
  have k1 := h1
  have lt1 : ∀ x ∈ p1, x.block < W.heap.size := by obtain ⟨m, hm⟩ := k1; exact DataW.trod_lt m _ _ _ hm
  have c1 : len1 ≤ cap1 := by obtain ⟨m, hm⟩ := k1; exact (open_cap Try.underlying33 hm).1
  obtain ⟨b1, w1⟩ := (by obtain ⟨fuel, hf⟩ := h1; exact open_keep hf : ∃ z : List Bool, Lies (Old W) W (.slice a1 len1 cap1) (z.map Value.bool))
  clear hA0 hval0
  refine (walk W a0 len0 cap0 z0 a1 len1 cap1 b1 w0 c0 w1 c1).mono fun e W' ⟨he, bel⟩ => ?_
  subst he
  exact ⟨_, rfl, _, _, _, [], _, [], hW', trodAll_mk1 (shut_bool Try.underlying4 _), (trodAll_cons_mk (Below.trod laidOut (by kernel_rfl) (of_decide_eq_true (by kernel_rfl)) k0 bel lt0) (trodAll_cons_mk (Below.trod laidOut (by kernel_rfl) (of_decide_eq_true (by kernel_rfl)) k1 bel lt1) trodAll_mk0)), rfl, bel.frame _, fun h => by cases h⟩

theorem over : Rows.cellsLastRow.holds Try.pinned (OpenSpec.ofChange Rows.cellsLastSpec) :=
  OpenClaim.holds_of_wide 7 Try.f7 rfl rfl rfl rfl rfl rfl rfl ⟨rfl, rfl, rfl, rfl, rfl⟩ rfl rfl rfl rfl rfl (by kernel_rfl) Try.func7 (by kernel_rfl)
    (of_decide_eq_true (by kernel_rfl)) (by unfold Func.isWrapper; first | (rw [if_pos (by decide +kernel)]; kernel_rfl) | (rw [if_neg (by decide +kernel)]; exact ⟨rfl, rfl⟩))
    (fun os started H enc _ => lifted os started H enc)

theorem proved : Rows.CellsLastSaid := over
end Go.Proofs.Ytjmdjadnllakpaa.cellsLast
namespace Go.Proofs.Ytjmdjadnllakpaa
theorem cellsLast_holds : Rows.CellsLastSaid := cellsLast.proved
#print axioms cellsLast_holds
end Go.Proofs.Ytjmdjadnllakpaa
