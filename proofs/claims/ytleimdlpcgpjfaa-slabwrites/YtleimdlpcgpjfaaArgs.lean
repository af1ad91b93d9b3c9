/- What a law is told of slices that came in: of bytes, of numbers, of parts; the contract of Few. -/
import Derived.Test.YtleimdlpcgpjfaaFirst
import Derived.Deep.Slices
import Derived.ChangeOld
import Derived.ShutString
namespace Go.Proofs.Ytleimdlpcgpjfaa.st
open Go.ChangeShapes Go.WideShapes Go.ChangeAt Go.RowKit Go.Proofs.Ytleimdlpcgpjfaa.hp Go.Proofs.Ytleimdlpcgpjfaa.dg
set_option linter.unusedVariables false

/-- The blocks that there are. -/
def Old (w : World) : Nat → Prop := fun k => k < w.heap.size

theorem lies_fn {J : Nat → Prop} {w : World} {x : Addr} {cap : Nat} {xs : List Value} (hJ : xs ≠ [] → J x.block) (h : ∀ i, i < xs.length → ∃ u, xs[i]? = some u ∧ w.cell? (x.add i) = some u) : Lies J w (.slice (some x) xs.length cap) xs := by
  refine .inr ⟨x, cap, rfl, hJ, fun i u hu => ?_⟩
  obtain ⟨u', h1, h2⟩ := h i (List.getElem?_eq_some_iff.1 hu).1
  rw [h1] at hu
  cases hu
  exact h2

theorem cell_lt {w : World} {a : Addr} {i : Nat} {u : Value} (h : w.cell? (a.add i) = some u) : Old w a.block := by
  have := World.block_lt_of_cell? w _ h
  rwa [add_block] at this

section
variable {H : Type} {enc : TypeId × Value → H} {w : World} {base fuel : Nat} {x : DataW H × List MemPlace}

theorem open_bytes {v : Value} (h : DataW.trod enc Try.prog w base (fun _ => true) true fuel 26 [v] = some x) : ∃ zs : List Int, Lies (Old w) w v (zs.map (Value.int .u8)) ∧ Bytes zs := by
  rcases open_ints Try.underlying26 Try.underlying5 (by kernel_rfl) h with ⟨hcs, _⟩ | ⟨a, l, c, zs, hcs, _, hl, hm, hz, _, hcell, hwz⟩
  · simp at hcs
    subst hcs
    exact ⟨[], .inl ⟨rfl, rfl⟩, fun x hx => by simp at hx⟩
  · simp at hcs
    subst hcs
    simp at hz
    have hlen : ((zs.take l).map (Value.int .u8)).length = l := by simp; omega
    refine ⟨zs.take l, ?_⟩
    have : Lies (Old w) w (.slice (some a) ((zs.take l).map (Value.int .u8)).length c) ((zs.take l).map (Value.int .u8)) := by
      refine lies_fn (fun he => ?_) (fun i hi => ?_)
      · have h0 : 0 < l := by
          rw [← hlen]
          exact List.length_pos_iff.2 he
        exact cell_lt (hcell 0 (by omega))
      · rw [hlen] at hi
        have := hcell i (by omega)
        refine ⟨_, ?_, this⟩
        rw [List.getElem?_map, List.getElem?_take_of_lt hi, List.getElem?_eq_getElem (by omega), List.getD_eq_getElem?_getD, List.getElem?_eq_getElem (by omega)]
        rfl
    rw [hlen] at this
    exact ⟨this, fun x hx => bounds_u8 (hwz x (List.mem_of_mem_take hx))⟩

theorem open_nums {v : Value} (h : DataW.trod enc Try.prog w base (fun _ => true) true fuel 55 [v] = some x) : ∃ zs : List Int, Lies (Old w) w v (zs.map (Value.int .i64)) := by
  rcases open_ints Try.underlying55 Try.underlying3 (by kernel_rfl) h with ⟨hcs, _⟩ | ⟨a, l, c, zs, hcs, _, hl, hm, hz, _, hcell, hwz⟩
  · simp at hcs
    subst hcs
    exact ⟨[], .inl ⟨rfl, rfl⟩⟩
  · simp at hcs
    subst hcs
    simp at hz
    have hlen : ((zs.take l).map (Value.int .i64)).length = l := by simp; omega
    refine ⟨zs.take l, ?_⟩
    have : Lies (Old w) w (.slice (some a) ((zs.take l).map (Value.int .i64)).length c) ((zs.take l).map (Value.int .i64)) := by
      refine lies_fn (fun he => ?_) (fun i hi => ?_)
      · have h0 : 0 < l := by
          rw [← hlen]
          exact List.length_pos_iff.2 he
        exact cell_lt (hcell 0 (by omega))
      · rw [hlen] at hi
        have := hcell i (by omega)
        refine ⟨_, ?_, this⟩
        rw [List.getElem?_map, List.getElem?_take_of_lt hi, List.getElem?_eq_getElem (by omega), List.getD_eq_getElem?_getD, List.getElem?_eq_getElem (by omega)]
        rfl
    rw [hlen] at this
    exact this

theorem open_cap {t e : TypeId} {a : Option Addr} {l c : Nat} (ht : Try.prog.underlying t = some (.slice e)) (h : DataW.trod enc Try.prog w base (fun _ => true) true fuel t [.slice a l c] = some x) : l ≤ c ∧ c ≤ maxLen := by
  rcases Deep.open_slice ht h with ⟨hcs, _⟩ | ⟨y, l', c', m, n, D, Pl, hcs, _, hl, hm, _⟩
  · simp at hcs
    obtain ⟨_, rfl, rfl⟩ := hcs
    exact ⟨Nat.le_refl _, by unfold maxLen; omega⟩
  · simp at hcs
    obtain ⟨_, rfl, rfl⟩ := hcs
    exact ⟨hl, hm⟩

/-- A part that came in. -/
structure PA where
  wd : Int
  n : Int
  b : Value
  zs : List Int

/-- The parts that a slice shows. -/
def PartsAt (w : World) (a : Option Addr) (len : Nat) (O : Nat → PA) : Prop := ∀ i, i < len → ∃ x, a = some x ∧ Old w x.block ∧ w.cell? (x.add (i * 3)) = some (.int .i64 (O i).wd) ∧ w.cell? (x.add (i * 3 + 1)) = some (.int .i64 (O i).n) ∧
  w.cell? (x.add (i * 3 + 2)) = some (O i).b ∧ Lies (Old w) w (O i).b ((O i).zs.map (Value.int .u8)) ∧ Bytes (O i).zs

theorem open_parts {a : Option Addr} {len cap : Nat} (h : DataW.trod enc Try.prog w base (fun _ => true) true fuel 22 [.slice a len cap] = some x) : ∃ O, PartsAt w a len O := by
  rcases Deep.open_slice Try.underlying22 h with ⟨hcs, _⟩ | ⟨y, l, c, m, n, D, Pl, hcs, _, hl, hm, hmm, _, hx⟩
  · simp at hcs
    obtain ⟨rfl, rfl, rfl⟩ := hcs
    exact ⟨fun _ => ⟨0, 0, .slice none 0 0, []⟩, fun i hi => by omega⟩
  · simp at hcs
    obtain ⟨rfl, rfl, rfl⟩ := hcs
    have each : ∀ i, i < len → ∃ o : PA, Old w y.block ∧ w.cell? (y.add (i * 3)) = some (.int .i64 o.wd) ∧ w.cell? (y.add (i * 3 + 1)) = some (.int .i64 o.n) ∧ w.cell? (y.add (i * 3 + 2)) = some o.b ∧ Lies (Old w) w o.b (o.zs.map (Value.int .u8)) ∧ Bytes o.zs := by
      intro i hi
      obtain ⟨cs', h1, h2⟩ := hx i (by rw [hmm]; split <;> omega)
      have ce : Try.prog.cellsOf 30 = 3 := by kernel_rfl
      rw [ce] at h1
      obtain ⟨_, hlen, hcell⟩ := World.cells?_some h1
      obtain ⟨xs, k, hk, hxy, _, hxl, hf⟩ := DataW.trod_struct Try.underlying30 h2
      match xs, hxl, cs', hlen with
      | [y0, y1, y2], _, [v0, v1, v2], _ =>
        have g0 := hf 0 _ rfl
        have g1 := hf 1 _ rfl
        have g2 := hf 2 _ rfl
        have c3 : Try.prog.cellsOf 3 = 1 := by kernel_rfl
        have c26 : Try.prog.cellsOf 26 = 1 := by kernel_rfl
        simp [c3, c26] at g0 g1 g2
        have e0 := hcell 0 (by omega)
        have e1 := hcell 1 (by omega)
        have e2 := hcell 2 (by omega)
        rw [Deep.add_add] at e0 e1 e2
        obtain ⟨n0, q0, _, _⟩ := DataW.trod_int Try.underlying3 g0
        obtain ⟨n1, q1, _, hw1⟩ := DataW.trod_int Try.underlying3 g1
        obtain ⟨zs, hzs, hbs⟩ := open_bytes g2
        simp at q0 q1 e0 e1 e2
        subst q0 q1
        exact ⟨⟨n0, n1, v2, zs⟩, cell_lt e0, e0, e1, e2, hzs, hbs⟩
    obtain ⟨O, hO⟩ := @Deep.choose_lt PA ⟨⟨0, 0, .slice none 0 0, []⟩⟩ _ _ each
    exact ⟨O, fun i hi => ⟨y, rfl, hO i hi⟩⟩
end

theorem add_field (x : Addr) (i j : Nat) : x.add (i + (j + 1)) = ⟨(x.add i).block, (x.add i).off + (j + 1), none⟩ := by
  unfold Addr.add
  rw [if_neg (by omega)]
  split
  · subst_vars; simp
  · simp; omega

/-- A part's cells, in the walk's own spelling, in a world that has but new blocks and writes to them; what its bytes show. -/
theorem PartsAt.at {w w' : World} {a : Option Addr} {len : Nat} {O : Nat → PA} (h : PartsAt w a len O) (c : Chg no w w') (i : Nat) (hi : i < len) :
    ∃ x ab cb, a = some x ∧ w'.cell? (x.add (i * 3)) = some (.int .i64 (O i).wd) ∧ w'.cell? ⟨(x.add (i * 3)).block, (x.add (i * 3)).off + 1, none⟩ = some (.int .i64 (O i).n) ∧
      w'.cell? ⟨(x.add (i * 3)).block, (x.add (i * 3)).off + 2, none⟩ = some (.slice ab (O i).zs.length cb) ∧ Lies (Old w) w' (.slice ab (O i).zs.length cb) ((O i).zs.map (Value.int .u8)) ∧ Bytes (O i).zs ∧ Old w (x.add (i * 3)).block := by
  obtain ⟨x, rfl, hx, e0, e1, e2, l2, hb2⟩ := h i hi
  obtain ⟨ab, cb, hb, _⟩ := l2.slice
  simp only [List.length_map] at hb
  rw [add_field x (i * 3) 0] at e1
  rw [add_field x (i * 3) 1, hb] at e2
  rw [hb] at l2
  exact ⟨x, ab, cb, rfl, c.cell e0 id, c.cell e1 id, c.cell e2 id, l2.chg c (fun _ _ h => h), hb2, by rw [add_block]; exact hx⟩

/-- What Few tells: few parts, none with many bytes. -/
def FewIs (len : Nat) (O : Nat → PA) : Prop := len ≤ 200 ∧ ∀ i, i < len → (O i).zs.length ≤ 20000

def FewRes (len : Nat) (O : Nat → PA) (w : World) (e : Ending) (w' : World) : Prop := ∃ b, e = .returned (.bool b) ∧ (b = true → FewIs len O) ∧ w' = w

set_option maxRecDepth 100000 in
set_option maxHeartbeats 2000000 in
theorem few_any {w : World} {a : Option Addr} {len : Nat} {O : Nat → PA} (h : PartsAt w a len O) (cap : Nat) :
    Calls Try.prog 10 #[.slice a len cap] w (FewRes len O w) := by
  have HO : Hid (PartsAt w a len O) := h
  clear h
  go_enter Try.func10, Try.ntmps10
  go_wp2_with fail
  go_loop [3, 4] (fun n i => ∃ (k N : Nat), k ≤ len ∧ k ≤ 200 ∧ N ≤ 20001 * k ∧ n = .int .i64 (N : Int) ∧ i = .int .i64 (k : Int) ∧ (∀ i, i < k → min (O i).zs.length 20001 ≤ N)) (fun _ i => 200 - (intOf i).toNat)
  case atStart => exact ⟨0, 0, by omega, by omega, by omega, rfl, rfl, fun i hi => by omega⟩
  case round =>
    obtain ⟨k, N, hk1, hk2, hN, rfl, rfl, hall⟩ := hrel
    by_cases hkl : k < len
    · have hkli : (k : Int) < len := by omega
      by_cases hk3 : k < 200
      · have hk3i : (k : Int) < 200 := by omega
        obtain ⟨x, ab, cb, rfl, e0, e1, e2, l2, _⟩ := HO.out.at (Chg.refl no w) k hkl
        obtain ⟨L, hL⟩ : ∃ L, (O k).zs.length = L := ⟨_, rfl⟩
        rw [hL] at e2
        obtain ⟨mL, hmL, bL, gL⟩ : ∃ mL : Nat, (if (20001 : Int) < (L : Int) then (20001 : Int) else (L : Int)) = mL ∧ mL ≤ 20001 ∧ min L 20001 ≤ mL := by
          by_cases h : (20001 : Int) < L
          · exact ⟨20001, by rw [if_pos h]; rfl, by omega, by omega⟩
          · exact ⟨L, by rw [if_neg h], by omega, by omega⟩
        have hall' : Hid (∀ i, i < k + 1 → min (O i).zs.length 20001 ≤ N + mL) := by
          intro i hi
          by_cases hik : i < k
          · have := hall i hik; omega
          · have : i = k := by omega
            subst this
            rw [hL]; omega
        clear hall l2 hL e0 e1
        go_wp2
        go_round
        case rel => exact ⟨k + 1, N + mL, by omega, by omega, by omega, by go_num, by go_num, hall'.out⟩
        case measure => simp [intOf]; omega
      · have hk3i : (200 : Int) ≤ k := by omega
        by_cases hl : len ≤ 200
        · omega
        · have hli : (200 : Int) < len := by omega
          go_wp2
          go_ret
          exact ⟨false, rfl, fun h => by simp at h, rfl⟩
    · obtain rfl : k = len := by omega
      have hkli : (k : Int) ≤ k := by omega
      have hli : (k : Int) ≤ 200 := by omega
      by_cases hN2 : N ≤ 20000
      · have hNi : (N : Int) ≤ 20000 := by omega
        have hall' : Hid (FewIs k O) := ⟨hk2, fun i hi => by have := hall i hi; omega⟩
        go_wp2
        go_ret
        exact ⟨_, rfl, fun _ => hall'.out, rfl⟩
      · have hNi : (20000 : Int) < N := by omega
        go_wp2
        go_ret
        exact ⟨false, ret_bool (by simp; omega), fun h => by simp at h, rfl⟩

theorem parts_later {w w' : World} {a : Option Addr} {len : Nat} {O : Nat → PA} (h : PartsAt w a len O) (c : Chg no w w') : PartsAt w' a len O := by
  intro i hi
  obtain ⟨x, rfl, hx, e0, e1, e2, l2, hb⟩ := h i hi
  exact ⟨x, rfl, Nat.lt_of_lt_of_le hx c.size, c.cell e0 id, c.cell e1 id, c.cell e2 id, (l2.chg c (fun _ _ h => h)).mono (fun k hk => Nat.lt_of_lt_of_le hk c.size), hb⟩

end Go.Proofs.Ytleimdlpcgpjfaa.st
