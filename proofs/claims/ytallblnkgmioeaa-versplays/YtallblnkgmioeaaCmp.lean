/- Contracts of Ints (of lists that are alike), Has, CopyInts, the document's On and its Shared. -/
import Derived.Test.YtallblnkgmioeaaBas
namespace Go.Proofs.Ytallblnkgmioeaa.st
open Go.ChangeShapes Go.WideShapes Go.ChangeAt Go.RowKit Go.Proofs.Ytallblnkgmioeaa.hp
set_option linter.unusedVariables false

set_option maxHeartbeats 1000000 in
theorem ints_same {J K : Nat → Prop} (w : World) (va vb : Value) (zs : List Int) (ha : Lies J w va (zs.map (Value.int .i64))) (hb : Lies K w vb (zs.map (Value.int .i64))) (hl : zs.length ≤ 100000000) :
    Calls Try.prog 15 #[va, vb] w fun e w' => e = .returned (.bool true) ∧ ∃ n, w' = w.drewN n := by
  obtain ⟨a, ca, rfl, _⟩ := ha.slice
  obtain ⟨b, cb, rfl, _⟩ := hb.slice
  simp only [List.length_map] at ha hb ⊢
  have hli : (zs.length : Int) ≤ 100000000 := by omega
  have HA : Hid (Lies J w (.slice a zs.length ca) (zs.map (Value.int .i64))) := ha
  have HB : Hid (Lies K w (.slice b zs.length cb) (zs.map (Value.int .i64))) := hb
  clear ha hb
  go_enter Try.func15, Try.ntmps15
  go_wp2_with fail
  go_loopw [5] (fun i wr => ∃ j n : Nat, j ≤ zs.length ∧ i = .int .i64 (j : Int) ∧ wr = w.drewN n) (fun i _ => zs.length - (intOf i).toNat)
  case atStart => exact ⟨0, 0, by omega, rfl, rfl⟩
  case round =>
    obtain ⟨j, n, hj, rfl, rfl⟩ := hrel
    by_cases hjn : j < zs.length
    · have hji : (j : Int) < zs.length := by omega
      obtain ⟨x, rfl, c1⟩ := lies_at HA.out j hjn
      obtain ⟨y, rfl, c2⟩ := lies_at HB.out j hjn
      obtain ⟨U, hU⟩ : ∃ U : Int, zs.getD j 0 = U := ⟨_, rfl⟩
      rw [hU] at c1 c2
      clear hU
      go_wp2_with fail
      go_quiet (fail)
      go_wp2
      go_roundw
      case rel => exact ⟨j + 1, _, by omega, by go_num, by first | rfl | exact World.drewN_drewN _ _ _⟩
      case measure => simp [intOf]; omega
    · obtain rfl : j = zs.length := by omega
      have hji : (zs.length : Int) ≤ zs.length := by omega
      go_wp2
      go_ret
      exact ⟨rfl, n, rfl⟩

theorem has_any {J : Nat → Prop} (w : World) (va : Value) (zs : List Int) (b : Int) (ha : Lies J w va (zs.map (Value.int .i64))) (hl : zs.length ≤ 100000000) :
    Calls Try.prog 23 #[va, .int .i64 b] w fun e w' => e = .returned (.bool (zs.contains b)) ∧ w' = w := by
  obtain ⟨a, ca, rfl, _⟩ := ha.slice
  simp only [List.length_map] at ha ⊢
  have hli : (zs.length : Int) ≤ 100000000 := by omega
  have HA : Hid (Lies J w (.slice a zs.length ca) (zs.map (Value.int .i64))) := ha
  clear ha
  obtain ⟨r, hr⟩ : ∃ r, zs.contains b = r := ⟨_, rfl⟩
  have HR : Hid (zs.contains b = r) := hr
  rw [hr]
  clear hr
  go_enter Try.func23, Try.ntmps23
  go_wp2
  go_loop [5] (fun i => ∃ j : Nat, j ≤ zs.length ∧ i = .int .i64 (j : Int) ∧ b ∉ zs.take j) (fun i => zs.length - (intOf i).toNat)
  case atStart => exact ⟨0, by omega, rfl, by simp⟩
  case round =>
    obtain ⟨j, hj, rfl, hno⟩ := hrel
    by_cases hjn : j < zs.length
    · have hji : (j : Int) < zs.length := by omega
      obtain ⟨x, rfl, c1⟩ := lies_at HA.out j hjn
      obtain ⟨U, hU⟩ : ∃ U : Int, zs.getD j 0 = U := ⟨_, rfl⟩
      rw [hU] at c1
      have hU2 : zs[j] = U := by
        rw [← hU, List.getD_eq_getElem?_getD, List.getElem?_eq_getElem hjn]
        rfl
      by_cases hc : U = b
      · have hr : r = true := by
          rw [← HR.out, List.contains_iff_mem, ← hc, ← hU2]
          exact List.getElem_mem hjn
        subst hr hc
        clear hU hU2 hno
        go_wp2
        go_ret
        exact ⟨rfl, rfl⟩
      · have HN : Hid (b ∉ zs.take (j + 1)) := by
          show b ∉ zs.take (j + 1)
          rw [List.take_succ_eq_append_getElem hjn, List.mem_append, hU2]
          rintro (h1 | h1)
          · exact hno h1
          · exact hc (List.mem_singleton.1 h1).symm
        have hc1 : (U == b) = false := by simpa using hc
        clear hU hU2 hno
        go_wp2
        go_round
        case rel => exact ⟨j + 1, by omega, by go_num, HN.out⟩
        case measure => simp [intOf]; omega
    · obtain rfl : j = zs.length := by omega
      have hji : (zs.length : Int) ≤ zs.length := by omega
      have hr : r = false := by
        rw [← HR.out, Bool.eq_false_iff]
        intro hc
        rw [List.take_length] at hno
        exact hno (List.contains_iff_mem.1 hc)
      subst hr
      clear hno
      go_wp2
      go_ret
      exact ⟨rfl, rfl⟩

theorem copyInts_any (v : Value) (zs : List Int) (J : Nat → Prop) (w : World) (h : Lies J w v (zs.map (Value.int .i64))) (hl : zs.length ≤ 100000) :
    Calls Try.prog 27 #[v] w fun e w' => ∃ v', e = .returned v' ∧ New w zs v' w' := by
  obtain ⟨i0, hi, hz0, hz1, hz2⟩ := info_parts info3
  have hmade := World.ownsRow_made (base := w.heap.size) (e := 3) (size := 1) w #[] 0 (Nat.le_refl _) (by unfold maxLen; omega) rfl
  rcases h with ⟨rfl, h0⟩ | ⟨x, cap, rfl, hx, hc⟩
  · obtain rfl : zs = [] := by simpa using h0
    go_enter Try.func27, Try.ntmps27
    go_wp2_with (at_builtin; refine wpList_append_own_none rfl _ _ 24 rfl w.heap.size 3 i0 1 Try.underlying24 hi _ 0 [] rfl hmade rfl ?_)
    go_ret
    exact ⟨_, rfl, hmade, (Chg.refl no w).alloc _⟩
  · go_enter Try.func27, Try.ntmps27
    go_wp2_with (at_builtin; refine wpList_append_own _ rfl _ _ 24 rfl w.heap.size 3 i0 (.int .i64 0) 1 8 Try.underlying24 hi hz0 hz1 hz2 rfl (by decide) _ 0 [] rfl hmade x _ cap (zs.map (Value.int .i64)) rfl ?c1 ?c2 ?c3 ?c4 ?c5 ?c6 ?_)
    case c1 => simp
    case c2 => exact fun j u hu => ((Chg.refl no w).alloc _).cell (hc j u hu) id
    case c3 => exact ints_oneCell _ _
    case c4 => simp; unfold maxLen; omega
    case c5 => simp; omega
    case c6 => simp
    intro v' w1 hown hg _
    go_wp2
    go_ret
    refine ⟨v', rfl, by simpa using hown, ((Chg.refl no w).alloc _).grown hg ?_⟩
    intro k hk
    simp [Value.ownBlock] at hk
    omega

end Go.Proofs.Ytallblnkgmioeaa.st
