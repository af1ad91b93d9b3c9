/- New, Copy, Len, Live, Bytes of the landed code. -/
import Derived.Test.YtallblnkgmioeaaObj
import Derived.Lib.SliceRun
namespace Go.Proofs.Ytallblnkgmioeaa.st
open Go.ChangeShapes Go.WideShapes Go.ChangeAt Go.RowKit Go.Proofs.Ytallblnkgmioeaa.hp Go.Proofs.Ytallblnkgmioeaa.bt
set_option linter.unusedVariables false
set_option linter.unusedSimpArgs false

theorem bytesOf_zeros (n : Nat) : bytesOf (List.replicate n 0) = List.replicate ((n + 7) / 8) 0 := by
  refine ext_getD (by rw [bytesOf_len, List.length_replicate, List.length_replicate]) fun k hk => ?_
  rw [bytesOf_len, List.length_replicate] at hk
  rw [bytesOf_get _ k (by rw [List.length_replicate]; exact hk), List.getD_eq_getElem?_getD, List.getElem?_replicate, if_pos hk, Option.getD_some]
  refine byte_ext (byt_bounds _ (zeros_bin n) k) (by omega) fun t ht => ?_
  rw [byt_at _ (zeros_bin n) k t ht]
  unfold bitAt
  rw [List.length_replicate]
  split
  · rw [List.getD_eq_getElem?_getD, List.getElem?_replicate, if_pos (by assumption), Option.getD_some]
    simp
  · simp

theorem new_no (w : World) (n : Int) (hm : mayN n = false) : Calls Try.prog 9 #[.int .i64 n] w fun e w' => e = .returned (.pointer none) ∧ Chg no w w' := by
  have hm' : ¬ (1 ≤ n ∧ n ≤ 127) := of_decide_eq_false hm
  have hc : n < 1 ∨ (1 ≤ n ∧ 127 < n) := by omega
  clear hm hm'
  rcases hc with h1 | ⟨h1, h2⟩
  · go_enter Try.func9, Try.ntmps9
    go_wp2
    go_ret
    exact ⟨rfl, Chg.refl no _⟩
  · have h3 : ¬ n < 1 := by omega
    go_enter Try.func9, Try.ntmps9
    go_wp2
    go_ret
    exact ⟨rfl, Chg.refl no _⟩

theorem new_yes (w : World) (n : Nat) (hm : mayN n = true) : Calls Try.prog 9 #[.int .i64 n] w fun e w' => ∃ p F, e = .returned (.pointer (some p)) ∧ Bt F w' (.pointer (some p)) (List.replicate n 0) ∧ (∀ k, F k → w.heap.size ≤ k) ∧ Chg no w w' := by
  obtain ⟨i0, hi, hz0, hz1, hz2⟩ := info_parts info5
  have hm' : 1 ≤ (n : Int) ∧ (n : Int) ≤ 127 := of_decide_eq_true hm
  have h1 : ¬ (n : Int) < 1 := by omega
  have h2 : ¬ (127 : Int) < n := by omega
  have h3 : 1 ≤ n ∧ n ≤ 127 := by omega
  have HL := length_any w n h3.2
  obtain ⟨N, hN⟩ : ∃ N, (n + 7) / 8 = N := ⟨_, rfl⟩
  have HN : Hid ((n + 7) / 8 = N) := hN
  have hNl : N ≤ 100 := by omega
  have hNi : (N : Int) ≤ 100 := by omega
  rw [hN] at HL
  clear hm hm' hN
  go_enter Try.func9, Try.ntmps9
  go_wp2_with fail
  refine HL.mono ?_
  rintro e w1 ⟨rfl, hw⟩
  subst hw
  clear HL
  go_wp2_with (at_make; refine wpList_make_full _ rfl _ _ 36 rfl w1.heap.size 5 i0 (.int .u8 0) 1 Try.underlying36 hi hz0 hz1 .i64 .i64 N N N rfl rfl rfl rfl ?c1 ?c2 ?c3 ?_)
  case c1 => rw [hz2]; omega
  case c2 => unfold maxLen; omega
  case c3 => omega
  intro w2 hown hg
  rw [toList_madeCells_one] at hown
  have k2 : Chg no w1 w2 := (Chg.refl no w1).grown hg (by simp)
  have hlt := (hown.lt w1.heap.size rfl).2
  have HO : Hid (Ob w2.heap.size w1.heap.size N (w2.alloc (.cells #[.int .i64 (n : Int), .slice (some ⟨w1.heap.size, 0, none⟩) N N] 53)) n (List.replicate N 0)) := by
    have hb := heap_alloc_new w2 (.cells #[.int .i64 (n : Int), .slice (some ⟨w1.heap.size, 0, none⟩) N N] 53)
    refine ⟨?_, ?_, by omega⟩
    · rw [HN.out]
      exact hb
    · rw [HN.out, List.map_replicate]
      exact ((Chg.refl no w2).alloc _).owns (owns_base hown (Nat.zero_le _)) (fun _ _ h => h)
  have HK : Hid (Chg no w1 w2) := k2
  clear hown hg k2 hlt
  go_wp2
  go_ret
  have hs := HK.out.size
  refine ⟨_, fun k => k = w2.heap.size ∨ k = w1.heap.size, rfl, ⟨w2.heap.size, w1.heap.size, N, rfl, ?_, fun k => Iff.rfl, zeros_bin n, by rw [List.length_replicate]; exact h3.1, by rw [List.length_replicate]; exact h3.2⟩, fun k hk => by omega, HK.out.alloc _⟩
  rw [List.length_replicate, bytesOf_zeros, HN.out]
  exact HO.out

theorem u8s_one (xs : List Int) : ∀ u ∈ xs.map (Value.int .u8), u.oneCell' = true := by
  intro u hu
  obtain ⟨x, _, rfl⟩ := List.mem_map.1 hu
  rfl

/-- slices.Clone of bytes that are not nil. -/
theorem clone_any {J : Nat → Prop} (w : World) (a : Addr) (c : Nat) (bs : List Int) (h : Lies J w (.slice (some a) bs.length c) (bs.map (Value.int .u8))) (hl : bs.length ≤ 100000) :
    Calls Try.prog 26 #[.slice (some a) bs.length c] w fun e w' => ∃ v', e = .returned v' ∧ NewB w bs v' w' := by
  obtain ⟨i0, hi, hz0, hz1, hz2⟩ := info_parts info5
  have hmade := World.ownsRow_made (base := w.heap.size) (e := 5) (size := 1) w #[] 0 (Nat.le_refl _) (by unfold maxLen; omega) rfl
  obtain ⟨x, cap, h1, hJ, hc⟩ : ∃ x cap, some a = some x ∧ True ∧ ∀ i u, (bs.map (Value.int .u8))[i]? = some u → w.cell? (x.add i) = some u := by
    rcases h with ⟨hh, _⟩ | ⟨x, cap, h1, _, h3⟩
    · cases hh
    · simp only [Value.slice.injEq] at h1
      exact ⟨x, 0, h1.1, trivial, h3⟩
  cases h1
  have qT : ∀ (w : World) (a : Option Addr) (n c n' c' : Nat), (binOp .eql 36 (.slice a n c) (.slice none n' c')).run Try.prog w = .ok (.bool a.isNone) w := fun w a n c n' c' => Lib.run_eql_slice_nil w _ _ a n c n' c' Try.underlying36
  go_enter Try.func26, Try.ntmps26
  go_wp2_with (at_builtin; refine wpList_append_own _ rfl _ _ 36 rfl w.heap.size 5 i0 (.int .u8 0) 1 1 Try.underlying36 hi hz0 hz1 hz2 rfl (by decide) _ 0 [] rfl hmade a _ c (bs.map (Value.int .u8)) rfl ?c1 ?c2 ?c3 ?c4 ?c5 ?c6 ?_)
  case c1 => simp
  case c2 => exact fun j u hu => ((Chg.refl no w).alloc _).cell (hc j u hu) id
  case c3 => exact u8s_one _
  case c4 => simp; unfold maxLen; omega
  case c5 => simp; omega
  case c6 => simp
  intro v' w1 hown hg _
  go_wp2
  go_ret
  refine ⟨v', rfl, by simpa using hown, ((Chg.refl no w).alloc _).grown hg ?_⟩
  intro k hk
  simp [Value.ownBlock] at hk
  omega

theorem len_any {F : Nat → Prop} {w : World} {v : Value} {x : List Int} (h : Bt F w v x) : Calls Try.prog 14 #[v] w fun e w' => e = .returned (.int .i64 (x.length : Int)) ∧ w' = w := by
  obtain ⟨p, g, c, rfl, o, _⟩ := h
  obtain ⟨c0, c1, _⟩ := o.cells
  clear o
  go_enter Try.func14, Try.ntmps14
  go_wp2
  go_ret
  exact ⟨rfl, rfl⟩

theorem obytes_any {F : Nat → Prop} {w : World} {v : Value} {x : List Int} (h : Bt F w v x) : Calls Try.prog 18 #[v] w fun e w' => ∃ v', e = .returned v' ∧ NewB w (bytesOf x) v' w' := by
  obtain ⟨p, g, c, rfl, o, _, _, _, hl⟩ := h
  obtain ⟨c0, c1, _⟩ := o.cells
  have hlen := o.len
  have hL := o.lies
  rw [← hlen] at hL c1
  have HC := clone_any w _ c _ hL (by omega)
  clear o hL hlen hl
  go_enter Try.func18, Try.ntmps18
  go_wp2_with fail
  refine HC.mono ?_
  rintro e w1 ⟨v', rfl, N⟩
  go_wp2
  go_ret
  exact ⟨_, rfl, N⟩

/-- A bit read. -/
theorem live_any {F : Nat → Prop} {w : World} {v : Value} {x : List Int} (b : Int) (h : Bt F w v x) : Calls Try.prog 22 #[v, .int .i64 b] w fun e w' => e = .returned (.int .i64 (liveI x b)) ∧ ∃ n, w' = w.drewN n := by
  obtain ⟨p, g, c, rfl, o, _, hx, h1, hl⟩ := h
  obtain ⟨c0, c1, _⟩ := o.cells
  by_cases hb : b < 0
  · have H := has_no w (.pointer (some ⟨p, 0, none⟩)) b hb
    have e : liveI x b = -1 := by unfold liveI; rw [if_neg (by omega)]
    rw [e]
    clear o
    go_enter Try.func22, Try.ntmps22
    go_wp2_with fail
    refine H.mono ?_
    rintro e w1 ⟨rfl, hw⟩
    subst hw
    go_wp2
    go_ret
    exact ⟨rfl, 0, rfl⟩
  · obtain ⟨k, rfl⟩ : ∃ k : Nat, b = k := ⟨b.toNat, by omega⟩
    have H := has_bit o (k : Int) (by omega)
    by_cases hk : k < x.length
    · have hd : decide ((k : Int) < (x.length : Int)) = true := decide_eq_true (by omega)
      rw [hd] at H
      have e : liveI x (k : Int) = x.getD k 0 := by unfold liveI; rw [if_pos ⟨by omega, by omega⟩, Int.toNat_natCast]
      have hP := fun W => place_any W k (by omega)
      obtain ⟨a1, a2⟩ := o.at (k / 8) (by omega)
      have hand := bytes_and x hx k hk
      have hbit : x.getD k 0 = 0 ∨ x.getD k 0 = 1 := hx _ (getD_mem hk)
      obtain ⟨N, hN⟩ : ∃ N, (x.length + 7) / 8 = N := ⟨_, rfl⟩
      obtain ⟨K, hK⟩ : ∃ K, k / 8 = K := ⟨_, rfl⟩
      obtain ⟨M, hM⟩ : ∃ M : Int, 2 ^ (k % 8) = M := ⟨_, rfl⟩
      rw [hK] at a1 a2 hand
      obtain ⟨B, hB⟩ : ∃ B, (bytesOf x).getD K 0 = B := ⟨_, rfl⟩
      have hM0 : M ≠ 0 := by
        rw [← hM, pow_int]
        have : 0 < 2 ^ (k % 8) := Nat.pow_pos (by omega)
        omega
      have hKN : K < N := by omega
      have hKNi : (K : Int) < N := by omega
      have hM1 : (M == 0) = false := by simpa using hM0
      rw [hB, hM] at hand
      rw [hB] at a1
      simp only [hN, hK, hM] at c1 hP
      rw [e]
      clear o hd e hM hB
      rcases hbit with h0 | h0
      all_goals
        rw [h0] at hand ⊢
        first | rw [if_pos rfl] at hand | rw [if_neg (by decide)] at hand
        go_enter Try.func22, Try.ntmps22
        go_wp2_with fail
        refine H.mono ?_
        rintro e w1 ⟨rfl, hw⟩
        subst hw
        go_wp2_with fail
        refine (hP _).mono ?_
        rintro e w2 ⟨rfl, n, rfl⟩
        go_wp2
        go_ret
        exact ⟨rfl, n, rfl⟩
    · have hd : decide ((k : Int) < (x.length : Int)) = false := decide_eq_false (by omega)
      rw [hd] at H
      have e : liveI x (k : Int) = -1 := by unfold liveI; rw [if_neg (by omega)]
      rw [e]
      clear o hd e
      go_enter Try.func22, Try.ntmps22
      go_wp2_with fail
      refine H.mono ?_
      rintro e w1 ⟨rfl, hw⟩
      subst hw
      go_wp2
      go_ret
      exact ⟨rfl, 0, rfl⟩

end Go.Proofs.Ytallblnkgmioeaa.st
