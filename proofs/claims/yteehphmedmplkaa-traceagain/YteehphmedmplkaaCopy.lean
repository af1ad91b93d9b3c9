/- Contracts of CopyBytes and of Few. -/
import Derived.Test.YteehphmedmplkaaArgs
namespace Go.Proofs.Yteehphmedmplkaa.st
open Go.ChangeShapes Go.WideShapes Go.ChangeAt Go.RowKit Go.Proofs.Yteehphmedmplkaa.hp Go.Proofs.Yteehphmedmplkaa.md
set_option linter.unusedVariables false

theorem copyBytes_any (v : Value) (zs : List Int) (J : Nat → Prop) (w : World) (h : Lies J w v (zs.map (Value.int .u8))) (hl : zs.length ≤ 100000) :
    Calls Try.prog 46 #[v] w fun e w' => ∃ v', e = .returned v' ∧ w'.ownsRow w.heap.size 5 1 v' zs.length (zs.map (Value.int .u8)) ∧ Chg no w w' := by
  obtain ⟨i0, hi, hz0, hz1, hz2⟩ := info_parts info5
  have hmade := World.ownsRow_made (base := w.heap.size) (e := 5) (size := 1) w #[] 0 (Nat.le_refl _) (by unfold maxLen; omega) rfl
  rcases h with ⟨rfl, h0⟩ | ⟨x, cap, rfl, hx, hc⟩
  · obtain rfl : zs = [] := by simpa using h0
    go_enter Try.func46, Try.ntmps46
    go_wp2_with (at_builtin; refine wpList_append_own_none rfl _ _ 31 rfl w.heap.size 5 i0 1 Try.underlying31 hi _ 0 [] rfl hmade rfl ?_)
    go_ret
    exact ⟨_, rfl, hmade, (Chg.refl no w).alloc _⟩
  · go_enter Try.func46, Try.ntmps46
    go_wp2_with (at_builtin; refine wpList_append_own _ rfl _ _ 31 rfl w.heap.size 5 i0 (.int .u8 0) 1 1 Try.underlying31 hi hz0 hz1 hz2 rfl (by decide) _ 0 [] rfl hmade x _ cap (zs.map (Value.int .u8)) rfl ?c1 ?c2 ?c3 ?c4 ?c5 ?c6 ?_)
    case c1 => simp
    case c2 => exact fun j u hu => ((Chg.refl no w).alloc _).cell (hc j u hu) id
    case c3 => exact ints_oneCell _ _
    case c4 => simp; unfold maxLen; omega
    case c5 => simp; omega
    case c6 => simp
    intro v' w1 hown hg _
    go_wp2
    go_ret
    refine ⟨v', rfl, by simpa using hown, ((Chg.refl no w).alloc _).grown hg ?_⟩
    intro k hk
    simp [Value.ownBlock] at hk
    omega

theorem add_field (x : Addr) (i j : Nat) : x.add (i + (j + 1)) = ⟨(x.add i).block, (x.add i).off + (j + 1), none⟩ := by
  unfold Addr.add
  rw [if_neg (by omega)]
  split
  · subst_vars; simp
  · simp; omega

/-- An operation's cells, in the walk's own spelling, in a world that has but new blocks; what its bytes and its bools show. -/
theorem OpsAt.at {w w' : World} {a : Option Addr} {len : Nat} {O : Nat → OpA} (h : OpsAt w a len O) (c : Chg no w w') (i : Nat) (hi : i < len) :
    ∃ x ab cb ak ck, a = some x ∧ (O i).b = .slice ab (O i).zs.length cb ∧ (O i).k = .slice ak (O i).bs.length ck ∧ w'.cell? (x.add (i * 4)) = some (.int .i64 (O i).kind) ∧
      w'.cell? ⟨(x.add (i * 4)).block, (x.add (i * 4)).off + 1, none⟩ = some (.int .i64 (O i).addr) ∧ w'.cell? ⟨(x.add (i * 4)).block, (x.add (i * 4)).off + 2, none⟩ = some (.slice ab (O i).zs.length cb) ∧
      w'.cell? ⟨(x.add (i * 4)).block, (x.add (i * 4)).off + 3, none⟩ = some (.slice ak (O i).bs.length ck) ∧
      Lies (Old w) w' (.slice ab (O i).zs.length cb) ((O i).zs.map (Value.int .u8)) ∧ Lies (Old w) w' (.slice ak (O i).bs.length ck) ((O i).bs.map Value.bool) := by
  obtain ⟨x, rfl, hx, e0, e1, e2, e3, l2, l3, _⟩ := h i hi
  obtain ⟨ab, cb, hb, _⟩ := l2.slice
  obtain ⟨ak, ck, hk, _⟩ := l3.slice
  simp only [List.length_map] at hb hk
  rw [add_field x (i * 4) 0] at e1
  rw [add_field x (i * 4) 1, hb] at e2
  rw [add_field x (i * 4) 2, hk] at e3
  rw [hb] at l2
  rw [hk] at l3
  exact ⟨x, ab, cb, ak, ck, rfl, hb, hk, c.cell e0 id, c.cell e1 id, c.cell e2 id, c.cell e3 id, l2.chg c (fun _ _ h => h), l3.chg c (fun _ _ h => h)⟩

/-- What Few tells: few operations, none with many bools. -/
def FewIs (len : Nat) (O : Nat → OpA) : Prop := len ≤ 200 ∧ ∀ i, i < len → (O i).bs.length ≤ 20000

def FewRes (len : Nat) (O : Nat → OpA) (w : World) (e : Ending) (w' : World) : Prop := ∃ b, e = .returned (.bool b) ∧ (b = true → FewIs len O) ∧ Chg no w w'

set_option maxRecDepth 100000 in
set_option maxHeartbeats 2000000 in
theorem few_any {w : World} {a : Option Addr} {len : Nat} {O : Nat → OpA} (h : OpsAt w a len O) (cap : Nat) :
    Calls Try.prog 9 #[.slice a len cap] w (FewRes len O w) := by
  have HO : Hid (OpsAt w a len O) := h
  clear h
  go_enter Try.func9, Try.ntmps9
  go_wp2_with fail
  go_loopw [3, 4] (fun n i wr => ∃ (k N : Nat), k ≤ len ∧ k ≤ 200 ∧ N ≤ 40002 * k ∧ n = .int .i64 (N : Int) ∧ i = .int .i64 (k : Int) ∧ (∀ i, i < k → min (O i).bs.length 20001 ≤ N) ∧ ∃ d, wr = w.drewN d) (fun _ i _ => 200 - (intOf i).toNat)
  case atStart => exact ⟨0, 0, by omega, by omega, by omega, rfl, rfl, fun i hi => by omega, 0, rfl⟩
  case round =>
    obtain ⟨k, N, hk1, hk2, hN, rfl, rfl, hall, d, rfl⟩ := hrel
    by_cases hkl : k < len
    · have hkli : (k : Int) < len := by omega
      by_cases hk3 : k < 200
      · have hk3i : (k : Int) < 200 := by omega
        obtain ⟨x, ab, cb, ak, ck, rfl, hb, hk, e0, e1, e2, e3, l2, l3⟩ := HO.out.at (Chg.refl no w) k hkl
        obtain ⟨L, hL⟩ : ∃ L, (O k).zs.length = L := ⟨_, rfl⟩
        obtain ⟨M, hM⟩ : ∃ M, (O k).bs.length = M := ⟨_, rfl⟩
        rw [hL] at e2
        rw [hM] at e3
        obtain ⟨mL, hmL, bL⟩ : ∃ mL : Nat, (if (20001 : Int) < (L : Int) then (20001 : Int) else (L : Int)) = mL ∧ mL ≤ 20001 := by
          by_cases h : (20001 : Int) < L
          · exact ⟨20001, by rw [if_pos h]; rfl, by omega⟩
          · exact ⟨L, by rw [if_neg h], by omega⟩
        obtain ⟨mM, hmM, bM, gM⟩ : ∃ mM : Nat, (if (20001 : Int) < (M : Int) then (20001 : Int) else (M : Int)) = mM ∧ mM ≤ 20001 ∧ min M 20001 ≤ mM := by
          by_cases h : (20001 : Int) < M
          · exact ⟨20001, by rw [if_pos h]; rfl, by omega, by omega⟩
          · exact ⟨M, by rw [if_neg h], by omega, by omega⟩
        have hall' : Hid (∀ i, i < k + 1 → min (O i).bs.length 20001 ≤ N + mL + mM) := by
          intro i hi
          by_cases hik : i < k
          · have := hall i hik; omega
          · have : i = k := by omega
            subst this
            rw [hM]; omega
        clear hall l2 l3 hb hk hL hM e0 e1
        go_wp2_with fail
        go_quiet (fail)
        go_wp2
        go_roundw
        case rel => exact ⟨k + 1, N + mL + mM, by omega, by omega, by omega, by go_num, by go_num, hall'.out, d + nq, by simp⟩
        case measure => simp [intOf]; omega
      · have hk3i : (200 : Int) ≤ k := by omega
        by_cases hl : len ≤ 200
        · omega
        · have hli : (200 : Int) < len := by omega
          go_wp2
          go_ret
          exact ⟨false, rfl, fun h => by simp at h, (Chg.refl no w).drewN d⟩
    · obtain rfl : k = len := by omega
      have hkli : (k : Int) ≤ k := by omega
      have hli : (k : Int) ≤ 200 := by omega
      by_cases hN2 : N ≤ 20000
      · have hNi : (N : Int) ≤ 20000 := by omega
        have hall' : Hid (FewIs k O) := ⟨hk2, fun i hi => by have := hall i hi; omega⟩
        go_wp2
        go_ret
        exact ⟨_, rfl, fun _ => hall'.out, (Chg.refl no w).drewN d⟩
      · have hNi : (20000 : Int) < N := by omega
        go_wp2
        go_ret
        exact ⟨false, ret_bool (by simp; omega), fun h => by simp at h, (Chg.refl no w).drewN d⟩

end Go.Proofs.Yteehphmedmplkaa.st
