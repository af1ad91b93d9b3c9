/- Operations that came in; contracts of few, Ints, row. -/
import Derived.Test.YtedhlidmmmlemaaNew
import Derived.Deep.OwnRows
namespace Go.Proofs.Ytedhlidmmmlemaa.st
open Go.ChangeShapes Go.WideShapes Go.ChangeAt Go.RowKit Go.Proofs.Ytedhlidmmmlemaa.hp
set_option linter.unusedVariables false
set_option linter.unusedSimpArgs false

/-- An operation: its kind, its block. -/
structure OpA where
  kind : Int
  id : Int
  a : Option Addr
  c : Nat
  d : List Int

/-- The operations that a slice shows. -/
def OpsAt (w : World) (a : Option Addr) (len : Nat) (O : Nat → OpA) : Prop := ∀ i, i < len → ∃ x, a = some x ∧ w.cell? (x.add (i * 3)) = some (.int .i64 (O i).kind) ∧ w.cell? (x.add (i * 3 + 1)) = some (.int .i64 (O i).id) ∧ w.cell? (x.add (i * 3 + 2)) = some (.slice (O i).a (O i).d.length (O i).c) ∧
  Lies (Old w) w (.slice (O i).a (O i).d.length (O i).c) ((O i).d.map (Value.int .u8)) ∧ Bytes (O i).d

set_option maxRecDepth 100000 in
theorem open_ops {H : Type} {enc : TypeId × Value → H} {w : World} {base fuel : Nat} {x : DataW H × List MemPlace} {a : Option Addr} {len cap : Nat} (h : DataW.trod enc Try.prog w base (fun _ => true) true fuel 23 [.slice a len cap] = some x) : ∃ O, OpsAt w a len O := by
  rcases Deep.open_slice Try.underlying23 h with ⟨hcs, _⟩ | ⟨y, l, c, m, n, D, Pl, hcs, _, hl, hm, hmm, _, hx⟩
  · simp at hcs
    obtain ⟨rfl, rfl, rfl⟩ := hcs
    exact ⟨fun _ => ⟨0, 0, none, 0, []⟩, fun i hi => by omega⟩
  · simp at hcs
    obtain ⟨rfl, rfl, rfl⟩ := hcs
    have each : ∀ i, i < len → ∃ o : OpA, w.cell? (y.add (i * 3)) = some (.int .i64 o.kind) ∧ w.cell? (y.add (i * 3 + 1)) = some (.int .i64 o.id) ∧ w.cell? (y.add (i * 3 + 2)) = some (.slice o.a o.d.length o.c) ∧ Lies (Old w) w (.slice o.a o.d.length o.c) (o.d.map (Value.int .u8)) ∧ Bytes o.d := by
      intro i hi
      obtain ⟨cs', h1, h2⟩ := hx i (by rw [hmm]; split <;> omega)
      have ce : Try.prog.cellsOf 39 = 3 := by kernel_rfl
      rw [ce] at h1
      obtain ⟨_, hlen, hcell⟩ := World.cells?_some h1
      obtain ⟨xs, k, hk, hxy, _, hxl, hf⟩ := DataW.trod_struct Try.underlying39 h2
      match xs, hxl, cs', hlen with
      | [y0, y1], _, [v0, v1, v2], _ =>
        have g0 := hf 0 _ rfl
        have g1 := hf 1 _ rfl
        have c3 : Try.prog.cellsOf 3 = 1 := by kernel_rfl
        have c36 : Try.prog.cellsOf 36 = 2 := by kernel_rfl
        have c34 : Try.prog.cellsOf 34 = 1 := by kernel_rfl
        simp [c3, c36] at g0 g1
        have e0 := hcell 0 (by omega)
        have e1 := hcell 1 (by omega)
        have e2 := hcell 2 (by omega)
        rw [Deep.add_add] at e0 e1 e2
        obtain ⟨n0, q0, _, _⟩ := DataW.trod_int Try.underlying3 g0
        obtain ⟨xs2, k2, hk2, hxy2, _, hxl2, hf2⟩ := DataW.trod_struct Try.underlying36 g1
        match xs2, hxl2 with
        | [z0, z1], _ =>
          have s0 := hf2 0 _ rfl
          have s1 := hf2 1 _ rfl
          simp [c3, c34] at s0 s1
          obtain ⟨n2, q2, _, _⟩ := DataW.trod_int Try.underlying3 s0
          obtain ⟨zs, hL, hB⟩ := open_bytes s1
          obtain ⟨b1, b2, hv, _⟩ := hL.slice
          simp only [List.length_map] at hv
          simp at q0 q2 e0 e1 e2
          subst q0 q2 hv
          exact ⟨⟨n0, n2, b1, b2, zs⟩, e0, e1, e2, hL, hB⟩
    obtain ⟨O, hO⟩ := @Deep.choose_lt OpA ⟨⟨0, 0, none, 0, []⟩⟩ _ _ each
    exact ⟨O, fun i hi => ⟨y, rfl, hO i hi⟩⟩

/-- An operation's cells, in the walk's own spelling, in a world that has but new blocks. -/
theorem OpsAt.at {w w' : World} {a : Option Addr} {len : Nat} {O : Nat → OpA} (h : OpsAt w a len O) (c : Chg no w w') (i : Nat) (hi : i < len) :
    ∃ x, a = some x ∧ w'.cell? (x.add (i * 3)) = some (.int .i64 (O i).kind) ∧ w'.cell? ⟨(x.add (i * 3)).block, (x.add (i * 3)).off + 1, none⟩ = some (.int .i64 (O i).id) ∧ w'.cell? ⟨(x.add (i * 3)).block, (x.add (i * 3)).off + 2, none⟩ = some (.slice (O i).a (O i).d.length (O i).c) ∧
      Lies (Old w) w' (.slice (O i).a (O i).d.length (O i).c) ((O i).d.map (Value.int .u8)) ∧ Bytes (O i).d := by
  obtain ⟨x, rfl, e0, e1, e2, l, b⟩ := h i hi
  rw [add_field x (i * 3) 0] at e1
  rw [add_field x (i * 3) 1] at e2
  exact ⟨x, rfl, c.cell e0 (fun h => h), c.cell e1 (fun h => h), c.cell e2 (fun h => h), l.chg c (fun _ _ h => h), b⟩

theorem OpsAt.same {w w' : World} {a : Option Addr} {len : Nat} {O : Nat → OpA} (h : OpsAt w a len O) (k : Chg no w w') : OpsAt w' a len O := by
  intro i hi
  obtain ⟨x, h0, h1, h2, h3, h4, h5⟩ := h i hi
  exact ⟨x, h0, k.cell h1 (fun h => h), k.cell h2 (fun h => h), k.cell h3 (fun h => h), Lies.later h4 k, h5⟩

/-- What few tells: few operations. -/
def FewoRes (n : Nat) (w : World) (e : Ending) (w' : World) : Prop := ∃ b, e = .returned (.bool b) ∧ (b = true → n ≤ 200) ∧ w' = w

set_option maxRecDepth 100000 in
set_option maxHeartbeats 2000000 in
theorem fewo_any (w : World) (a : Option Addr) (len cap : Nat) (O : Nat → OpA) (h : OpsAt w a len O) (hl : len ≤ cap) (hc : cap ≤ maxLen) : Calls Try.prog 9 #[.slice a len cap] w (FewoRes len w) := by
  have hli : (len : Int) ≤ 9223372036854775807 := by unfold maxLen at hc; omega
  have HO : Hid (OpsAt w a len O) := h
  clear h
  go_enter Try.func9, Try.ntmps9
  go_wp2_with fail
  go_loop [3, 4] (fun n i => ∃ (k N : Nat), k ≤ len ∧ k ≤ 200 ∧ N ≤ 20001 * k ∧ n = .int .i64 (N : Int) ∧ i = .int .i64 (k : Int)) (fun _ i => 200 - (intOf i).toNat)
  case atStart => exact ⟨0, 0, by omega, by omega, by omega, rfl, rfl⟩
  case round =>
    obtain ⟨k, N, hk1, hk2, hN, rfl, rfl⟩ := hrel
    by_cases hkl : k < len
    · have hkli : (k : Int) < len := by omega
      by_cases hk3 : k < 200
      · have hk3i : (k : Int) < 200 := by omega
        obtain ⟨x, rfl, e0, e1, e2, _⟩ := OpsAt.at HO.out (Chg.refl no w) k hkl
        obtain ⟨L, hL⟩ : ∃ L, (O k).d.length = L := ⟨_, rfl⟩
        rw [hL] at e2
        obtain ⟨mL, hmL, bL⟩ : ∃ mL : Nat, (if (20001 : Int) < (L : Int) then (20001 : Int) else (L : Int)) = mL ∧ mL ≤ 20001 := by
          by_cases h : (20001 : Int) < L
          · exact ⟨20001, by rw [if_pos h]; rfl, by omega⟩
          · exact ⟨L, by rw [if_neg h], by omega⟩
        clear hL e0 e1
        go_wp2
        go_round
        case rel => exact ⟨k + 1, N + mL, by omega, by omega, by omega, by go_num, by go_num⟩
        case measure => simp [intOf]; omega
      · have hk3i : (200 : Int) ≤ k := by omega
        by_cases hl : len ≤ 200
        · omega
        · have hli : (200 : Int) < len := by omega
          go_wp2
          go_ret
          exact ⟨false, rfl, fun h => by simp at h, rfl⟩
    · obtain rfl : k = len := by omega
      have hkli : (k : Int) ≤ k := by omega
      have hli : (k : Int) ≤ 200 := by omega
      go_wp2
      go_ret
      exact ⟨_, rfl, fun _ => hk2, rfl⟩

theorem lies_int {J : Nat → Prop} {w : World} {a : Option Addr} {l c : Nat} {xs : List Int} (h : Lies J w (.slice a l c) (xs.map (Value.int .i64))) (k : Nat) (hk : k < xs.length) : ∃ y, a = some y ∧ w.cell? (y.add k) = some (.int .i64 (xs.getD k 0)) := by
  obtain ⟨a', c', e, hc⟩ := h.slice
  cases e
  obtain ⟨y, e, _, h2⟩ := hc k (.int .i64 (xs.getD k 0)) (by rw [List.getElem?_map, List.getD_eq_getElem?_getD, List.getElem?_eq_getElem hk]; rfl)
  exact ⟨y, e, h2⟩

set_option maxHeartbeats 2000000 in
theorem ints_any {J K : Nat → Prop} (w : World) (a b : Option Addr) (l c l' c' : Nat) (xs ys : List Int) (ha : Lies J w (.slice a l c) (xs.map (Value.int .i64))) (hb : Lies K w (.slice b l' c') (ys.map (Value.int .i64))) (hx : xs.length = l) (hy : ys.length = l') (hl : l ≤ 100000) (hl' : l' ≤ 100000) :
    Calls Try.prog 21 #[.slice a l c, .slice b l' c'] w fun e w' => e = .returned (.bool (decide (xs = ys))) ∧ Chg no w w' := by
  have HA : Hid (Lies J w (.slice a l c) (xs.map (Value.int .i64))) := ha
  have HB : Hid (Lies K w (.slice b l' c') (ys.map (Value.int .i64))) := hb
  obtain ⟨R, hR⟩ : ∃ R, decide (xs = ys) = R := ⟨_, rfl⟩
  have HR : Hid (decide (xs = ys) = R) := hR
  rw [hR]
  clear ha hb hR
  by_cases hll : l = l'
  · subst hll
    have HX : Hid (xs.length = l) := hx
    have HY : Hid (ys.length = l) := hy
    clear hx hy hl'
    have hni : (l : Int) ≤ 100000 := by omega
    go_enter Try.func21, Try.ntmps21
    go_wp2_with fail
    go_loopw [5] (fun i wr => ∃ k : Nat, k ≤ l ∧ i = .int .i64 (k : Int) ∧ Chg no w wr ∧ xs.take k = ys.take k) (fun i _ => l - (intOf i).toNat)
    case atStart => exact ⟨0, by omega, rfl, Chg.refl no w, rfl⟩
    case round =>
      obtain ⟨k, hk, rfl, hC, hE⟩ := hrel
      have HE : Hid (xs.take k = ys.take k) := hE
      have HC : Hid (Chg no w wr) := hC
      clear hE
      by_cases hkn : k < l
      · have hki : (k : Int) < l := by omega
        obtain ⟨y1, rfl, e0⟩ := lies_int (HA.out.chg hC (fun _ _ h => h)) k (by rw [HX.out]; exact hkn)
        obtain ⟨y2, rfl, f0⟩ := lies_int (HB.out.chg hC (fun _ _ h => h)) k (by rw [HY.out]; exact hkn)
        have HS : Hid ((xs.getD k 0 = ys.getD k 0 → xs.take (k + 1) = ys.take (k + 1)) ∧ (xs.getD k 0 ≠ ys.getD k 0 → R = false)) := by
          refine ⟨fun e => take_eq 0 (by rw [HX.out]; exact hkn) (by rw [HY.out]; exact hkn) HE.out e, fun e => ?_⟩
          rw [← HR.out]
          exact decide_eq_false fun e' => e (by rw [e'])
        obtain ⟨i1, hi1⟩ : ∃ i, xs.getD k 0 = i := ⟨_, rfl⟩
        obtain ⟨i2, hi2⟩ : ∃ i, ys.getD k 0 = i := ⟨_, rfl⟩
        rw [hi1] at e0 HS
        rw [hi2] at f0 HS
        clear hi1 hi2 hC
        by_cases he : i1 = i2
        · subst he
          have hbb : (i1 != i1) = false := by simp
          have HN : Hid (xs.take (k + 1) = ys.take (k + 1)) := HS.out.1 rfl
          clear HS
          go_wp2_with fail
          go_quiet (fail)
          go_wp2
          go_roundw
          case rel => exact ⟨k + 1, by omega, by go_num, HC.out.drewN _, HN.out⟩
          case measure => simp [intOf]; omega
        · have hbb : (i1 != i2) = true := by simpa using he
          have hR : R = false := HS.out.2 he
          subst hR
          clear HS
          go_wp2_with fail
          go_quiet (fail)
          go_wp2
          go_ret
          exact ⟨rfl, HC.out.drewN _⟩
      · obtain rfl : k = l := by omega
        have hki : (k : Int) ≤ k := by omega
        have hR : R = true := by
          have := HE.out
          rw [List.take_of_length_le (by rw [HX.out]; omega), List.take_of_length_le (by rw [HY.out]; omega)] at this
          rw [← HR.out]
          exact decide_eq_true this
        subst hR
        go_wp2
        go_ret
        exact ⟨rfl, HC.out⟩
  · have hR : R = false := by
      rw [← HR.out]
      refine decide_eq_false fun e => hll ?_
      rw [← hx, ← hy, e]
    subst hR
    clear HA HB HR hx hy
    have h1 : (l == l') = false := by simpa using hll
    have h2 : ((l : Int) == (l' : Int)) = false := by simp; omega
    have h3 : ¬ ((l : Int) = (l' : Int)) := by omega
    go_enter Try.func21, Try.ntmps21
    go_wp2
    go_ret
    exact ⟨rfl, Chg.refl no w⟩

/-- A block's data in the law: one byte, zeros. -/
def rowL (c : Int) : List Int := (List.replicate 37 0).set 0 c

theorem rowL_len (c : Int) : (rowL c).length = 37 := by simp [rowL]
theorem rowL_bytes {c : Int} (hc : 0 ≤ c ∧ c ≤ 255) : Bytes (rowL c) := by
  intro x hx
  rcases List.mem_or_eq_of_mem_set hx with h | h
  · exact bytes_rep 37 x h
  · subst h
    exact hc

theorem row_any (w : World) (c : Int) :
    Calls Try.prog 29 #[.int .u8 c] w fun e w' => e = .returned (.slice (some ⟨w.heap.size, 0, none⟩) 37 37) ∧ w'.heap[w.heap.size]? = some (.cells ((rowL c).map (Value.int .u8)).toArray 5 (0, 0)) ∧ Chg no w w' := by
  have hm37 : ∀ w, (Instr.makeSlice 34 (.int .i64 37) (.int .i64 37)).run Try.prog w = .ok (.slice (some ⟨w.heap.size, 0, none⟩) 37 37) (w.alloc (.cells (madeCells #[.int .u8 0] 37) 5)) := fun w => run_make_row' (P := Try.prog) 34 5 (.int .u8 0) 1 Try.underlying34 info5 rfl .i64 .i64 37 (by omega) (by omega) w
  have hE : (madeCells #[Value.int .u8 0] 37).setIfInBounds 0 (.int .u8 c) = ((rowL c).map (Value.int .u8)).toArray := by
    rw [made_eq, List.setIfInBounds_toArray, rowL, List.map_set]
  have HH : Hid ((w.alloc (.cells ((madeCells #[Value.int .u8 0] 37).setIfInBounds 0 (.int .u8 c)) 5)).heap[w.heap.size]? = some (.cells ((rowL c).map (Value.int .u8)).toArray 5 (0, 0))) := by
    show _ = _
    rw [hE]
    exact heap_alloc_new _ _
  have hsz : (madeCells #[Value.int .u8 0] 37).size = 37 := size_madeCells _ _
  obtain ⟨q0, q1⟩ : (w.alloc (.cells (madeCells #[Value.int .u8 0] 37) 5)).cell? ⟨w.heap.size, 0, none⟩ = some (.int .u8 0) ∧ (w.alloc (.cells (madeCells #[Value.int .u8 0] 37) 5)).frozen? ⟨w.heap.size, 0, none⟩ = false := by
    have hb := heap_alloc_new w (.cells (madeCells #[Value.int .u8 0] 37) 5)
    rw [made_eq] at hb ⊢
    exact row_cell hb 0 _ rfl
  clear hE
  go_enter Try.func29, Try.ntmps29
  go_wp2
  go_ret
  exact ⟨rfl, HH.out, (Chg.refl no w).alloc _⟩

end Go.Proofs.Ytedhlidmmmlemaa.st
