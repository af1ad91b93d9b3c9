/- What a law is told of places, changes and operations that came in; few. -/
import Derived.Test.YtocbmjkbbbmncaaFst
import Derived.Deep.Slices
import Derived.Deep.SlicePairs
import Derived.ChangeOld
import Derived.ShutString
import Derived.Lib.SmallJoins
namespace Go.Proofs.Ytocbmjkbbbmncaa.st
open Go.ChangeShapes Go.WideShapes Go.ChangeAt Go.RowKit Go.Proofs.Ytocbmjkbbbmncaa.hp
set_option linter.unusedVariables false

/-- The blocks that there are. -/
def Old (w : World) : Nat → Prop := fun k => k < w.heap.size

theorem cell_lt {w : World} {a : Addr} {i : Nat} {u : Value} (h : w.cell? (a.add i) = some u) : Old w a.block := by
  have := World.block_lt_of_cell? w _ h
  rwa [add_block] at this

theorem lie_fn2 {w : World} {y : Addr} {len cap : Nat} {z : Nat → Int × Int} (h : ∀ i, i < len → w.cell? (y.add (i * 2)) = some (.int .i64 (z i).1) ∧ w.cell? (y.add (i * 2 + 1)) = some (.int .i64 (z i).2)) : Lie (Old w) w (.slice (some y) len cap) len (((List.range len).map z).flatMap f2) := by
  refine .inr ⟨y, cap, rfl, fun hne => ?_, fun i u hu => ?_⟩
  · have h0 : 0 < len := by
      rcases Nat.eq_zero_or_pos len with e | e
      · subst e
        exact absurd rfl hne
      · exact e
    exact cell_lt (h 0 h0).1
  · have hi : i < len * 2 := by
      have := (List.getElem?_eq_some_iff.1 hu).1
      rw [flat_length len2] at this
      simpa using this
    have hq : i / 2 < len := by omega
    have hz : ((List.range len).map z)[i / 2]? = some (z (i / 2)) := by rw [List.getElem?_map, List.getElem?_range hq]; rfl
    have hg := flat_get len2 _ (i / 2) (i % 2) (by omega) _ hz
    have he : i / 2 * 2 + i % 2 = i := by omega
    rw [he, hu] at hg
    obtain ⟨h0, h1⟩ := h (i / 2) hq
    have hr : i % 2 = 0 ∨ i % 2 = 1 := by omega
    rcases hr with hr | hr
    · rw [hr] at hg he
      simp [f2] at hg
      rw [hg, ← h0]
      congr 2
      omega
    · rw [hr] at hg he
      simp [f2] at hg
      rw [hg, ← h1]
      congr 2
      omega

theorem lie_fn3 {w : World} {y : Addr} {len cap : Nat} {z : Nat → Int × Int × Int} (h : ∀ i, i < len → w.cell? (y.add (i * 3)) = some (.int .i64 (z i).1) ∧ w.cell? (y.add (i * 3 + 1)) = some (.int .i64 (z i).2.1) ∧ w.cell? (y.add (i * 3 + 2)) = some (.int .i64 (z i).2.2)) : Lie (Old w) w (.slice (some y) len cap) len (((List.range len).map z).flatMap f3) := by
  refine .inr ⟨y, cap, rfl, fun hne => ?_, fun i u hu => ?_⟩
  · have h0 : 0 < len := by
      rcases Nat.eq_zero_or_pos len with e | e
      · subst e
        exact absurd rfl hne
      · exact e
    exact cell_lt (h 0 h0).1
  · have hi : i < len * 3 := by
      have := (List.getElem?_eq_some_iff.1 hu).1
      rw [flat_length len3] at this
      simpa using this
    have hq : i / 3 < len := by omega
    have hz : ((List.range len).map z)[i / 3]? = some (z (i / 3)) := by rw [List.getElem?_map, List.getElem?_range hq]; rfl
    have hg := flat_get len3 _ (i / 3) (i % 3) (by omega) _ hz
    have he : i / 3 * 3 + i % 3 = i := by omega
    rw [he, hu] at hg
    obtain ⟨h0, h1, h2⟩ := h (i / 3) hq
    have hr : i % 3 = 0 ∨ i % 3 = 1 ∨ i % 3 = 2 := by omega
    rcases hr with hr | hr | hr
    · rw [hr] at hg he
      simp [f3] at hg
      rw [hg, ← h0]
      congr 2
      omega
    · rw [hr] at hg he
      simp [f3] at hg
      rw [hg, ← h1]
      congr 2
      omega
    · rw [hr] at hg he
      simp [f3] at hg
      rw [hg, ← h2]
      congr 2
      omega

section
variable {H : Type} {enc : TypeId × Value → H} {w : World} {base fuel : Nat} {x : DataW H × List MemPlace}

theorem open_cap {t e : TypeId} {a : Option Addr} {l c : Nat} (ht : Try.prog.underlying t = some (.slice e)) (h : DataW.trod enc Try.prog w base (fun _ => true) true fuel t [.slice a l c] = some x) : l ≤ c ∧ c ≤ maxLen := by
  rcases Deep.open_slice ht h with ⟨hcs, _⟩ | ⟨y, l', c', m, n, D, Pl, hcs, _, hl, hm, _⟩
  · simp at hcs
    obtain ⟨_, rfl, rfl⟩ := hcs
    exact ⟨Nat.le_refl _, by unfold maxLen; omega⟩
  · simp at hcs
    obtain ⟨_, rfl, rfl⟩ := hcs
    exact ⟨hl, hm⟩

/-- Places that came in. -/
theorem open_places {a : Option Addr} {len cap : Nat} (h : DataW.trod enc Try.prog w base (fun _ => true) true fuel 22 [.slice a len cap] = some x) : ∃ ps : List (Int × Int), ps.length = len ∧ Lie (Old w) w (.slice a len cap) ps.length (ps.flatMap f2) := by
  rcases Deep.open_slice_pairs Try.underlying22 Try.underlying33 (by kernel_rfl) rfl rfl (by kernel_rfl) (by kernel_rfl) h with ⟨hcs, _⟩ | ⟨y, l, c, mm, nn, V0, V1, D0, D1, P0, P1, hcs, _, hl, hm, hmm, _, hall⟩
  · simp at hcs
    obtain ⟨rfl, rfl, rfl⟩ := hcs
    exact ⟨[], rfl, .inl ⟨rfl, rfl, rfl⟩⟩
  · simp at hcs
    obtain ⟨rfl, rfl, rfl⟩ := hcs
    have each : ∀ i, i < len → ∃ z : Int × Int, w.cell? (y.add (i * 2)) = some (.int .i64 z.1) ∧ w.cell? (y.add (i * 2 + 1)) = some (.int .i64 z.2) := by
      intro i hi
      obtain ⟨e0, e1, t0, t1⟩ := hall i (by rw [hmm]; split <;> omega)
      obtain ⟨n0, g0, _, f0⟩ := DataW.trod_int Try.underlying3 t0
      obtain ⟨n1, g1, _, f1⟩ := DataW.trod_int Try.underlying3 t1
      simp at g0 g1
      exact ⟨(n0, n1), by rw [e0, g0], by rw [e1, g1]⟩
    obtain ⟨z, hz⟩ := Deep.choose_lt each
    have := lie_fn2 (cap := cap) hz
    refine ⟨(List.range len).map z, by simp, ?_⟩
    rw [List.length_map, List.length_range]
    exact this

/-- Changes that came in. -/
theorem open_changes {a : Option Addr} {len cap : Nat} (h : DataW.trod enc Try.prog w base (fun _ => true) true fuel 34 [.slice a len cap] = some x) : ∃ cs : List (Int × Int × Int), cs.length = len ∧ Lie (Old w) w (.slice a len cap) cs.length (cs.flatMap f3) := by
  rcases Deep.open_slice Try.underlying34 h with ⟨hcs, _⟩ | ⟨y, l, c, m, n, D, Pl, hcs, _, hl, hm, hmm, _, hx⟩
  · simp at hcs
    obtain ⟨rfl, rfl, rfl⟩ := hcs
    exact ⟨[], rfl, .inl ⟨rfl, rfl, rfl⟩⟩
  · simp at hcs
    obtain ⟨rfl, rfl, rfl⟩ := hcs
    have each : ∀ i, i < len → ∃ z : Int × Int × Int, w.cell? (y.add (i * 3)) = some (.int .i64 z.1) ∧ w.cell? (y.add (i * 3 + 1)) = some (.int .i64 z.2.1) ∧ w.cell? (y.add (i * 3 + 2)) = some (.int .i64 z.2.2) := by
      intro i hi
      obtain ⟨cs', h1, h2⟩ := hx i (by rw [hmm]; split <;> omega)
      have ce : Try.prog.cellsOf 58 = 3 := by kernel_rfl
      rw [ce] at h1
      obtain ⟨_, hlen, hcell⟩ := World.cells?_some h1
      obtain ⟨xs, k, hk, hxy, _, hxl, hf⟩ := DataW.trod_struct Try.underlying58 h2
      match xs, hxl, cs', hlen with
      | [y0, y1], _, [v0, v1, v2], _ =>
        have g0 := hf 0 _ rfl
        have g1 := hf 1 _ rfl
        have c3 : Try.prog.cellsOf 3 = 1 := by kernel_rfl
        have c33 : Try.prog.cellsOf 33 = 2 := by kernel_rfl
        simp [c3, c33] at g0 g1
        have e0 := hcell 0 (by omega)
        have e1 := hcell 1 (by omega)
        have e2 := hcell 2 (by omega)
        rw [Deep.add_add] at e0 e1 e2
        obtain ⟨n0, q0, _, _⟩ := DataW.trod_int Try.underlying3 g0
        obtain ⟨xs2, k2, hk2, hxy2, _, hxl2, hf2⟩ := DataW.trod_struct Try.underlying33 g1
        match xs2, hxl2 with
        | [z0, z1], _ =>
          have s0 := hf2 0 _ rfl
          have s1 := hf2 1 _ rfl
          simp [c3] at s0 s1
          obtain ⟨n1, q1, _, _⟩ := DataW.trod_int Try.underlying3 s0
          obtain ⟨n2, q2, _, _⟩ := DataW.trod_int Try.underlying3 s1
          simp at q0 q1 q2 e0 e1 e2
          subst q0 q1 q2
          exact ⟨(n0, n1, n2), e0, e1, e2⟩
    obtain ⟨z, hz⟩ := Deep.choose_lt each
    have := lie_fn3 (cap := cap) hz
    refine ⟨(List.range len).map z, by simp, ?_⟩
    rw [List.length_map, List.length_range]
    exact this
end

/-- An operation. -/
structure OpA where
  kind : Int
  d : Int
  l : Int
  t : Int
  a : Option Addr
  c : Nat
  cs : List (Int × Int × Int)

/-- The operations that a slice shows. -/
def OpsAt (w : World) (a : Option Addr) (len : Nat) (O : Nat → OpA) : Prop := ∀ i, i < len → ∃ x, a = some x ∧ w.cell? (x.add (i * 5)) = some (.int .i64 (O i).kind) ∧ w.cell? (x.add (i * 5 + 1)) = some (.int .i64 (O i).d) ∧ w.cell? (x.add (i * 5 + 2)) = some (.int .i64 (O i).l) ∧ w.cell? (x.add (i * 5 + 3)) = some (.int .i64 (O i).t) ∧
  w.cell? (x.add (i * 5 + 4)) = some (.slice (O i).a (O i).cs.length (O i).c) ∧ Lie (Old w) w (.slice (O i).a (O i).cs.length (O i).c) (O i).cs.length ((O i).cs.flatMap f3)

set_option maxRecDepth 100000 in
theorem open_ops {H : Type} {enc : TypeId × Value → H} {w : World} {base fuel : Nat} {x : DataW H × List MemPlace} {a : Option Addr} {len cap : Nat} (h : DataW.trod enc Try.prog w base (fun _ => true) true fuel 23 [.slice a len cap] = some x) : ∃ O, OpsAt w a len O := by
  rcases Deep.open_slice Try.underlying23 h with ⟨hcs, _⟩ | ⟨y, l, c, m, n, D, Pl, hcs, _, hl, hm, hmm, _, hx⟩
  · simp at hcs
    obtain ⟨rfl, rfl, rfl⟩ := hcs
    exact ⟨fun _ => ⟨0, 0, 0, 0, none, 0, []⟩, fun i hi => by omega⟩
  · simp at hcs
    obtain ⟨rfl, rfl, rfl⟩ := hcs
    have each : ∀ i, i < len → ∃ o : OpA, w.cell? (y.add (i * 5)) = some (.int .i64 o.kind) ∧ w.cell? (y.add (i * 5 + 1)) = some (.int .i64 o.d) ∧ w.cell? (y.add (i * 5 + 2)) = some (.int .i64 o.l) ∧ w.cell? (y.add (i * 5 + 3)) = some (.int .i64 o.t) ∧
        w.cell? (y.add (i * 5 + 4)) = some (.slice o.a o.cs.length o.c) ∧ Lie (Old w) w (.slice o.a o.cs.length o.c) o.cs.length (o.cs.flatMap f3) := by
      intro i hi
      obtain ⟨cs', h1, h2⟩ := hx i (by rw [hmm]; split <;> omega)
      have ce : Try.prog.cellsOf 36 = 5 := by kernel_rfl
      rw [ce] at h1
      obtain ⟨_, hlen, hcell⟩ := World.cells?_some h1
      obtain ⟨xs, k, hk, hxy, _, hxl, hf⟩ := DataW.trod_struct Try.underlying36 h2
      match xs, hxl, cs', hlen with
      | [y0, y1, y2, y3], _, [v0, v1, v2, v3, v4], _ =>
        have g0 := hf 0 _ rfl
        have g1 := hf 1 _ rfl
        have g2 := hf 2 _ rfl
        have g3 := hf 3 _ rfl
        have c3 : Try.prog.cellsOf 3 = 1 := by kernel_rfl
        have c33 : Try.prog.cellsOf 33 = 2 := by kernel_rfl
        have c34 : Try.prog.cellsOf 34 = 1 := by kernel_rfl
        simp [c3, c33, c34] at g0 g1 g2 g3
        have e0 := hcell 0 (by omega)
        have e1 := hcell 1 (by omega)
        have e2 := hcell 2 (by omega)
        have e3 := hcell 3 (by omega)
        have e4 := hcell 4 (by omega)
        rw [Deep.add_add] at e0 e1 e2 e3 e4
        obtain ⟨n0, q0, _, _⟩ := DataW.trod_int Try.underlying3 g0
        obtain ⟨n1, q1, _, hw1⟩ := DataW.trod_int Try.underlying3 g1
        obtain ⟨xs2, k2, hk2, hxy2, _, hxl2, hf2⟩ := DataW.trod_struct Try.underlying33 g2
        match xs2, hxl2 with
        | [z0, z1], _ =>
          have s0 := hf2 0 _ rfl
          have s1 := hf2 1 _ rfl
          simp [c3] at s0 s1
          obtain ⟨n2, q2, _, hw2⟩ := DataW.trod_int Try.underlying3 s0
          obtain ⟨n3, q3, _, hw3⟩ := DataW.trod_int Try.underlying3 s1
          obtain ⟨b1, l1, b2, hb3⟩ : ∃ b1 l1 b2, v4 = .slice b1 l1 b2 := by
            rcases Deep.open_slice Try.underlying34 g3 with ⟨hcs, _⟩ | ⟨y', l', c', _, _, _, _, hcs, _⟩
            · simp at hcs
              exact ⟨_, _, _, hcs⟩
            · simp at hcs
              exact ⟨_, _, _, hcs⟩
          subst hb3
          obtain ⟨cs, hcl, hL⟩ := open_changes g3
          subst hcl
          simp at q0 q1 q2 q3 e0 e1 e2 e3 e4
          subst q0 q1 q2 q3
          exact ⟨⟨n0, n1, n2, n3, b1, b2, cs⟩, e0, e1, e2, e3, e4, hL⟩
    obtain ⟨O, hO⟩ := @Deep.choose_lt OpA ⟨⟨0, 0, 0, 0, none, 0, []⟩⟩ _ _ each
    exact ⟨O, fun i hi => ⟨y, rfl, hO i hi⟩⟩

theorem OpsAt.same {w w' : World} {a : Option Addr} {len : Nat} {O : Nat → OpA} (h : OpsAt w a len O) (k : Chg no w w') : OpsAt w' a len O := by
  intro i hi
  obtain ⟨x, h0, h1, h2, h3, h4, h5, h6⟩ := h i hi
  exact ⟨x, h0, k.cell h1 id, k.cell h2 id, k.cell h3 id, k.cell h4 id, k.cell h5 id, (h6.same k).mono (fun j hj => by have := k.size; unfold Old at *; omega)⟩

/-- An operation's cells, in the walk's own spelling, in a world that has but new blocks. -/
theorem OpsAt.at {w w' : World} {a : Option Addr} {len : Nat} {O : Nat → OpA} (h : OpsAt w a len O) (c : Chg no w w') (i : Nat) (hi : i < len) :
    ∃ x, a = some x ∧ w'.cell? (x.add (i * 5)) = some (.int .i64 (O i).kind) ∧ w'.cell? ⟨(x.add (i * 5)).block, (x.add (i * 5)).off + 1, none⟩ = some (.int .i64 (O i).d) ∧ w'.cell? ⟨(x.add (i * 5)).block, (x.add (i * 5)).off + 2, none⟩ = some (.int .i64 (O i).l) ∧
      w'.cell? ⟨(x.add (i * 5)).block, (x.add (i * 5)).off + 3, none⟩ = some (.int .i64 (O i).t) ∧ w'.cell? ⟨(x.add (i * 5)).block, (x.add (i * 5)).off + 4, none⟩ = some (.slice (O i).a (O i).cs.length (O i).c) ∧
      Lie (Old w) w' (.slice (O i).a (O i).cs.length (O i).c) (O i).cs.length ((O i).cs.flatMap f3) := by
  obtain ⟨x, rfl, e0, e1, e2, e3, e4, l⟩ := h i hi
  rw [add_field x (i * 5) 0] at e1
  rw [add_field x (i * 5) 1] at e2
  rw [add_field x (i * 5) 2] at e3
  rw [add_field x (i * 5) 3] at e4
  exact ⟨x, rfl, c.cell e0 id, c.cell e1 id, c.cell e2 id, c.cell e3 id, c.cell e4 id, l.same c⟩

/-- What few tells. -/
def FewRes (len : Nat) (O : Nat → OpA) (w : World) (e : Ending) (w' : World) : Prop := ∃ b, e = .returned (.bool b) ∧ (b = true → len ≤ 200 ∧ ∀ i, i < len → (O i).cs.length ≤ 2000) ∧ w' = w

set_option maxRecDepth 100000 in
set_option maxHeartbeats 2000000 in
theorem few_any (w : World) (a : Option Addr) (len cap : Nat) (O : Nat → OpA) (h : OpsAt w a len O) (hl : len ≤ cap) (hc : cap ≤ maxLen) : Calls Try.prog 8 #[.slice a len cap] w (FewRes len O w) := by
  have hli : (len : Int) ≤ 9223372036854775807 := by unfold maxLen at hc; omega
  have HO : Hid (OpsAt w a len O) := h
  clear h
  go_enter Try.func8, Try.ntmps8
  go_wp2_with fail
  go_loopw [3, 4] (fun n i wr => ∃ j s : Nat, j ≤ len ∧ j ≤ 200 ∧ i = .int .i64 (j : Int) ∧ n = .int .i64 (s : Int) ∧ s ≤ 2001 * j ∧ (s ≤ 2000 → ∀ t, t < j → (O t).cs.length ≤ 2000) ∧ w = wr) (fun _ i _ => 200 - (intOf i).toNat)
  case atStart => exact ⟨0, 0, by omega, by omega, rfl, rfl, by omega, fun _ t ht => by omega, rfl⟩
  case round =>
    obtain ⟨j, s, hj, hj1, rfl, rfl, hs, hf, rfl⟩ := hrel
    have hsi : (s : Int) ≤ 400200 := by omega
    by_cases hjl : j < len
    · have hjli : (j : Int) < len := by omega
      by_cases hj2 : j < 200
      · have hj2i : (j : Int) < 200 := by omega
        obtain ⟨x, rfl, e0, e1, e2, e3, e4, _⟩ := OpsAt.at HO.out (Chg.refl no w) j hjl
        obtain ⟨zl, hzl⟩ : ∃ zl, (O j).cs.length = zl := ⟨_, rfl⟩
        rw [hzl] at e4
        obtain ⟨m, hm⟩ : ∃ m, min zl 2001 = m := ⟨_, rfl⟩
        have hm1 : m ≤ 2001 := by omega
        have hmin : (if 2001 < zl then (2001 : Int) else (zl : Int)) = m := by split <;> omega
        have hmin2 : (if (2001 : Int) < (zl : Int) then (2001 : Int) else (zl : Int)) = m := by split <;> omega
        have HF : Hid (s + m ≤ 2000 → ∀ t, t < j + 1 → (O t).cs.length ≤ 2000) := by
          intro hsm t ht
          by_cases e : t = j
          · subst e
            omega
          · exact hf (by omega) t (by omega)
        have hmi : (m : Int) ≤ 2001 := by omega
        clear hf hzl hm e0 e1 e2 e3
        go_wp2
        go_roundw
        case rel => exact ⟨j + 1, s + m, by omega, by omega, by go_num, by go_num, by omega, HF.out, by first | rfl | trivial⟩
        case measure => simp [intOf]; omega
      · obtain rfl : j = 200 := by omega
        have hj2i : (200 : Int) ≤ (200 : Int) := by omega
        have hl3 : (200 : Int) < len := by omega
        clear hf
        go_wp2
        go_ret
        exact ⟨_, rfl, fun h => by simp at h <;> omega, rfl⟩
    · obtain rfl : j = len := by omega
      have hjli : (j : Int) ≤ (j : Int) := by omega
      have HF : Hid ((s ≤ 2000 → ∀ t, t < j → (O t).cs.length ≤ 2000)) := hf
      have hj3 : (j : Int) ≤ 200 := by omega
      clear hf
      by_cases hs2 : s ≤ 2000
      · have hs3 : (s : Int) ≤ 2000 := by omega
        go_wp2
        go_ret
        exact ⟨_, rfl, fun _ => ⟨hj1, HF.out hs2⟩, rfl⟩
      · have hs3 : (2000 : Int) < s := by omega
        go_wp2
        go_ret
        exact ⟨_, rfl, fun h => by simp at h <;> omega, rfl⟩

end Go.Proofs.Ytocbmjkbbbmncaa.st
