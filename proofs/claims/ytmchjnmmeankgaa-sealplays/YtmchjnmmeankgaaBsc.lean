/- Contracts of CopyBytes, Fill, Grow, Concat, Xor and the document's Xor: bytes in new memory. -/
import Derived.Test.YtmchjnmmeankgaaSmall
import Derived.Test.YtmchjnmmeankgaaApp
import Derived.Lib.AppendZeros
import Derived.Laws.BitsAllLaws
import Derived.Laws.OwnMore
namespace Go.Proofs.Ytmchjnmmeankgaa.st
open Go.ChangeShapes Go.WideShapes Go.ChangeAt Go.RowKit Go.Proofs.Ytmchjnmmeankgaa.hp Go.Proofs.Ytmchjnmmeankgaa.dg
set_option linter.unusedVariables false

/-- Bytes in new memory, of the caller's own. -/
def New (w : World) (zs : List Int) (v : Value) (w' : World) : Prop := w'.ownsRow w.heap.size 5 1 v zs.length (zs.map (Value.int .u8)) ∧ Chg no w w'

theorem New.lies {w w' : World} {zs : List Int} {v : Value} (h : New w zs v w') : Lies (fun k => w.heap.size ≤ k ∧ k < w'.heap.size) w' v (zs.map (Value.int .u8)) :=
  Lies.of_owns h.1 h.1.lt

theorem New.shape {w w' : World} {zs : List Int} {v : Value} (h : New w zs v w') : ∃ a c, v = .slice a zs.length c := owns_shape h.1

theorem copyBytes_any (v : Value) (zs : List Int) (J : Nat → Prop) (w : World) (h : Lies J w v (zs.map (Value.int .u8))) (hl : zs.length ≤ 100000000) :
    Calls Try.prog 39 #[v] w fun e w' => ∃ v', e = .returned v' ∧ New w zs v' w' := by
  obtain ⟨i0, hi, hz0, hz1, hz2⟩ := info_parts info5
  have hmade := World.ownsRow_made (base := w.heap.size) (e := 5) (size := 1) w #[] 0 (Nat.le_refl _) (by unfold maxLen; omega) rfl
  rcases h with ⟨rfl, h0⟩ | ⟨x, cap, rfl, hx, hc⟩
  · obtain rfl : zs = [] := by simpa using h0
    go_enter Try.func39, Try.ntmps39
    go_wp2_with (at_builtin; refine wpList_append_own_none rfl _ _ 22 rfl w.heap.size 5 i0 1 Try.underlying22 hi _ 0 [] rfl hmade rfl ?_)
    go_ret
    exact ⟨_, rfl, hmade, (Chg.refl no w).alloc _⟩
  · go_enter Try.func39, Try.ntmps39
    go_wp2_with (at_builtin; refine wpList_append_own _ rfl _ _ 22 rfl w.heap.size 5 i0 (.int .u8 0) 1 1 Try.underlying22 hi hz0 hz1 hz2 rfl (by decide) _ 0 [] rfl hmade x _ cap (zs.map (Value.int .u8)) rfl ?c1 ?c2 ?c3 ?c4 ?c5 ?c6 ?_)
    case c1 => simp
    case c2 => exact fun j u hu => ((Chg.refl no w).alloc _).cell (hc j u hu) id
    case c3 => exact ints_oneCell _ _
    case c4 => simp; unfold maxLen; omega
    case c5 => simp; omega
    case c6 => simp
    intro v' w1 hown hg _
    go_wp2
    go_ret
    refine ⟨v', rfl, by simpa using hown, ((Chg.refl no w).alloc _).grown hg ?_⟩
    intro k hk
    simp [Value.ownBlock] at hk
    omega

theorem clone_new (v : Value) (zs : List Int) (J : Nat → Prop) (w : World) (h : Lies J w v (zs.map (Value.int .u8))) (hl : zs.length ≤ 100000000) :
    Calls Try.prog 30 #[v] w fun e w' => ∃ v', e = .returned v' ∧ New w zs v' w' := clone_any v zs J w h hl

/-- The first n, with zeros where there are fewer. -/
def fit (zs : List Int) (n : Nat) : List Int := fill (zs.take n) n

theorem fit_length (zs : List Int) (n : Nat) : (fit zs n).length = n := fill_length _ _ (by simp; omega)

set_option maxHeartbeats 1000000 in
theorem rfill_any {J : Nat → Prop} (w : World) (v : Value) (zs : List Int) (n : Nat) (h : Lies J w v (zs.map (Value.int .u8))) (hn : n ≤ 100000000) :
    Calls Try.prog 28 #[v, .int .i64 n] w fun e w' => e = .returned (.slice (some ⟨w.heap.size, 0, none⟩) n n) ∧
      w'.heap[w.heap.size]? = some (.cells ((fit zs n).map (Value.int .u8)).toArray 5 (0, 0)) ∧ Chg no w w' := by
  obtain ⟨i0, hi0, hz0, hz1, hz2⟩ := info_parts info5
  have hcs : (Try.prog.info? 5).map (·.size) = some 1 := by kernel_rfl
  obtain ⟨CS, hCS⟩ : ∃ CS : List Value, CS.length = Nat.min zs.length n ∧ splice ((madeCells #[Value.int .u8 0] n).toList) 0 CS = (fit zs n).map (Value.int .u8) ∧ (∀ u ∈ CS, u.oneCell' = true) ∧
      ∃ a c, v = .slice a zs.length c ∧ (0 < CS.length → ∃ x, a = some x ∧ ∀ (j : Nat) (u : Value), CS[j]? = some u → w.cell? (x.add j) = some u) := by
    refine ⟨(zs.take n).map (Value.int .u8), by simp [Nat.min_comm], splice_fill (zs.take n) n (by simp; omega), ints_oneCell _ _, ?_⟩
    rcases h with ⟨h1, h2⟩ | ⟨x, c, h1, h2, h3⟩
    · have : zs = [] := by simpa using h2
      subst this
      exact ⟨_, _, h1, by simp⟩
    · refine ⟨_, _, by rw [h1, List.length_map], fun _ => ⟨x, rfl, fun j u hu => h3 j u ?_⟩⟩
      rw [List.map_take, List.getElem?_take] at hu
      split at hu
      · exact hu
      · cases hu
  obtain ⟨hC1, hC2, hC3, a, c, hC4, hC5⟩ := hCS
  subst hC4
  have HS : Hid (splice ((madeCells #[Value.int .u8 0] n).toList) 0 CS = (fit zs n).map (Value.int .u8)) := hC2
  have HP : Hid (0 < CS.length → ∃ x, a = some x ∧ ∀ (j : Nat) (u : Value), CS[j]? = some u → w.cell? (x.add j) = some u) := hC5
  have HC1 : Hid (CS.length = Nat.min zs.length n) := hC1
  obtain ⟨L, hL⟩ : ∃ L, zs.length = L := ⟨_, rfl⟩
  rw [hL] at HC1 ⊢
  clear hC2 hC5 h hC1 hL
  go_enter Try.func28, Try.ntmps28
  go_wp2_with (at_make; refine wpList_make_full _ rfl _ _ 22 rfl w.heap.size 5 i0 (.int .u8 0) 1 Try.underlying22 hi0 hz0 hz1 .i64 .i64 n n n rfl rfl rfl rfl ?c1 ?c2 ?c3 ?_)
  case c1 => rw [hz2]; omega
  case c2 => unfold maxLen; omega
  case c3 => omega
  intro w1 hown hg
  have k1 : Chg no w w1 := (Chg.refl no w).grown hg (by simp)
  have G : Hid (w1.heap[w.heap.size]? = some (.cells ((madeCells #[Value.int .u8 0] n).toList).toArray 5 (0, 0))) := by
    exact (row_whole hown).1
  have HP1 : Hid (0 < CS.length → some (⟨w.heap.size, 0, none⟩ : Addr) = some ⟨w.heap.size, 0, none⟩ ∧ ∃ ad, a = some ad ∧ ∀ (j : Nat) (u : Value), CS[j]? = some u → w1.cell? (ad.add j) = some u) := by
    intro h0
    obtain ⟨x, hx, hc⟩ := HP.out h0
    exact ⟨rfl, x, hx, fun j u hu => k1.cell (hc j u hu) id⟩
  clear hown
  go_wp2_with (refine wpList_copy_splice rfl (.tmp 8) (.tmp 9) 22 22 rfl 5 Try.underlying22 hcs _ _ _ _ _ _ rfl rfl w.heap.size 0 (madeCells #[Value.int .u8 0] n).toList 5 G.out CS HC1.out HP1.out (by have := HC1.out; simp only [Nat.min_def] at this; simp [toList_madeCells_one]; split at this <;> omega) hC3 w.heap.size _ (Below.refl _ _) (Nat.le_refl _) ?_; intro w3 G3 B3)
  go_ret
  have G4 := G3.out
  rw [HS.out] at G4
  exact ⟨rfl, G4, k1.blocked B3 (Nat.le_refl _)⟩

theorem new_of_block {w w' : World} {zs : List Int} {n : Nat} (h : w'.heap[w.heap.size]? = some (.cells (zs.map (Value.int .u8)).toArray 5 (0, 0))) (hn : zs.length = n) (hm : n ≤ maxLen) (k : Chg no w w') : New w zs (.slice (some ⟨w.heap.size, 0, none⟩) n n) w' := by
  refine ⟨⟨by simp, .inr ⟨_, n, _, by rw [hn], Nat.le_refl _, h, by omega, hm, by simp [hn], ?_⟩⟩, k⟩
  rw [List.take_of_length_le (by simp)]

/-! ### slices.Grow of nil, slices.Concat -/

theorem zeros_size (n : Nat) : (Builtin.zeroCells #[Value.int .u8 0] n).size = n := by
  simp [Builtin.zeroCells]

set_option maxRecDepth 100000 in
theorem grow_nil (w : World) (n : Nat) (h0 : 0 < n) (hn : n ≤ 100000000) :
    Calls Try.prog 43 #[.slice none 0 0, .int .i64 n] w fun e w' => ∃ v', e = .returned v' ∧ New w [] v' w' := by
  obtain ⟨i0, hi, hz0, hz1, hz2⟩ := info_parts info5
  have hni : (0 : Int) < n := by omega
  have hni2 : (n : Int) ≤ 100000000 := by omega
  have hcap := grownCap_ge w n 0 5
  have hcap2 := grownCap_le_maxLen w n 0 5 (by unfold maxLen; omega)
  have hR := fun ty => Lib.run_append_nil_zeros (P := Try.prog) w 22 3 ty 5 i0 (.int .u8 0) .i64 .i64 Try.underlying22 Try.underlying3 hi hz0 n h0 (by omega) (by omega) (by rw [hz2]; omega)
  obtain ⟨C, hC⟩ : ∃ C, grownCap w n 0 5 = C := ⟨_, rfl⟩
  rw [hC] at hcap hcap2
  simp only [hC] at hR
  have hCi : (n : Int) ≤ C := by omega
  have hCi2 : (C : Int) ≤ 9223372036854775807 := by unfold maxLen at hcap2; omega
  clear hC
  have HR : Hid (∀ ty, (Builtin.append_ #[22, 3] ty #[.slice none 0 0, .int .i64 n]).run Try.prog w = .ok (.slice (some ⟨w.heap.size, 0, none⟩) n C) (w.drew.alloc (.cells (Builtin.zeroCells (Value.int .u8 0).cells n ++ Builtin.zeroCells (Value.int .u8 0).cells (C - n)) 5))) := hR
  clear hR
  go_enter Try.func43, Try.ntmps43
  go_wp2_with (at_builtin; refine Lib.wpList_append_run _ rfl _ _ _ _ rfl _ _ rfl rfl _ _ (HR.out _) ?_)
  go_ret
  refine ⟨_, rfl, ⟨by simp, .inr ⟨_, C, _, rfl, Nat.le_refl _, heap_alloc_new w.drew _, Nat.zero_le _, hcap2, ?_, by simp⟩⟩, ((Chg.refl no w).drew).alloc _⟩
  simp only [Array.size_append, zeros_size]
  omega

/-- Slices of bytes in a row: what each shows. -/
structure Many (J : Nat → Prop) (w : World) (v : Value) (vs : List Value) (bss : List (List Int)) : Prop where
  row : Lies J w v vs
  len : vs.length = bss.length
  each : ∀ i, i < bss.length → Lies J w (vs.getD i undef) ((bss.getD i []).map (Value.int .u8))

theorem Many.chg {F J : Nat → Prop} {w w' : World} {v : Value} {vs : List Value} {bss : List (List Int)} (h : Many J w v vs bss) (c : Chg F w w') (hn : ∀ k, J k → ¬ F k) : Many J w' v vs bss :=
  ⟨h.row.chg c hn, h.len, fun i hi => (h.each i hi).chg c hn⟩

theorem Many.at {J : Nat → Prop} {w : World} {v : Value} {vs : List Value} {bss : List (List Int)} (h : Many J w v vs bss) {a : Option Addr} {l c : Nat} (hv : v = .slice a l c) (i : Nat) (hi : i < bss.length) :
    ∃ x b d, a = some x ∧ w.cell? (x.add i) = some (.slice b (bss.getD i []).length d) ∧ Lies J w (.slice b (bss.getD i []).length d) ((bss.getD i []).map (Value.int .u8)) := by
  obtain ⟨a', c', hv', hc⟩ := h.row.slice
  rw [hv'] at hv
  cases hv
  have hg : vs[i]? = some (vs.getD i undef) := by rw [List.getD_eq_getElem?_getD, List.getElem?_eq_getElem (by rw [h.len]; exact hi)]; rfl
  obtain ⟨x, hx, _, hx2⟩ := hc i _ hg
  obtain ⟨b, d, hb, _⟩ := (h.each i hi).slice
  simp only [List.length_map] at hb
  have he := h.each i hi
  rw [hb] at he hx2
  exact ⟨x, b, d, hx, hx2, he⟩

theorem flat_take (bss : List (List Int)) (j : Nat) (hj : j < bss.length) : (bss.take (j + 1)).flatten = (bss.take j).flatten ++ bss.getD j [] := by
  rw [List.take_succ_eq_append_getElem hj, List.flatten_append]
  simp [List.getD_eq_getElem?_getD, List.getElem?_eq_getElem hj]

theorem flat_len (bss : List (List Int)) (j : Nat) : ((bss.take j).flatten).length ≤ bss.flatten.length := by
  have h : bss.flatten = (bss.take j).flatten ++ (bss.drop j).flatten := by rw [← List.flatten_append, List.take_append_drop]
  have := congrArg List.length h
  rw [List.length_append] at this
  omega

set_option maxRecDepth 100000 in
set_option maxHeartbeats 4000000 in
theorem concat_any (w : World) (J : Nat → Prop) (v : Value) (vs : List Value) (bss : List (List Int)) (h : Many J w v vs bss) (hJ : ∀ k, J k → k < w.heap.size) (hl : bss.length ≤ 1000) (h0 : 0 < bss.flatten.length) (hf : bss.flatten.length ≤ 100000000) :
    Calls Try.prog 32 #[v] w fun e w' => ∃ v', e = .returned v' ∧ New w bss.flatten v' w' := by
  obtain ⟨i0, hi, hz0, hz1, hz2⟩ := info_parts info5
  obtain ⟨x, c, rfl, _⟩ := h.row.slice
  rw [h.len]
  have hli : (bss.length : Int) ≤ 1000 := by omega
  have HM : Hid (Many J w (.slice x bss.length c) vs bss) := by have := h; rw [h.len] at this; exact this
  have HF : Hid (0 < bss.flatten.length ∧ bss.flatten.length ≤ 100000000) := ⟨h0, hf⟩
  clear h h0 hf
  go_enter Try.func32, Try.ntmps32
  go_wp2_with fail
  go_loopw [3, 11] (fun n i wr => ∃ j : Nat, j ≤ bss.length ∧ i = .int .i64 (j : Int) ∧ n = .int .i64 ((bss.take j).flatten.length : Int) ∧ w = wr) (fun _ i _ => bss.length - (intOf i).toNat)
  case atStart => exact ⟨0, by omega, rfl, by simp, rfl⟩
  case round =>
    obtain ⟨j, hj, rfl, rfl, rfl⟩ := hrel
    by_cases hjn : j < bss.length
    · have hji : (j : Int) < bss.length := by omega
      obtain ⟨y, b, d, rfl, hc, _⟩ := HM.out.at rfl j hjn
      have e1 := congrArg List.length (flat_take bss j hjn)
      have e2 := flat_len bss (j + 1)
      have e3 := HF.out.2
      rw [List.length_append] at e1
      obtain ⟨T, hT⟩ : ∃ T, (bss.take j).flatten.length = T := ⟨_, rfl⟩
      obtain ⟨U, hU⟩ : ∃ U, (bss.take (j + 1)).flatten.length = U := ⟨_, rfl⟩
      obtain ⟨V, hV⟩ : ∃ V, (bss.getD j []).length = V := ⟨_, rfl⟩
      rw [hT, hV, hU] at e1
      rw [hU] at e2
      rw [hV] at hc
      rw [hT]
      have e4 : (T : Int) + V ≤ 100000000 := by omega
      have e5 : ((T : Int) + V < 0) = False := by simp; omega
      have HE : Hid ((T : Int) + V = U) := by show (T : Int) + V = U; omega
      have HU : Hid ((bss.take (j + 1)).flatten.length = U) := hU
      clear hT hU hV e1 e2 e3
      go_wp2
      go_roundw
      case rel => exact ⟨j + 1, by omega, by go_num, by rw [HU.out, ← HE.out], by first | rfl | trivial⟩
      case measure => simp [intOf]; omega
    · obtain rfl : j = bss.length := by omega
      have hji : (bss.length : Int) ≤ (bss.length : Int) := by omega
      rw [List.take_length]
      have HG := grow_nil w bss.flatten.length HF.out.1 HF.out.2
      obtain ⟨T, hT⟩ : ∃ T, bss.flatten.length = T := ⟨_, rfl⟩
      rw [hT] at HG ⊢
      have HT : Hid (bss.flatten.length = T) := hT
      clear hT
      go_wp2_with fail
      refine HG.mono ?_
      rintro e w1 ⟨v1, rfl, N1⟩
      obtain ⟨a1, c1, rfl⟩ := N1.shape
      clear HG
      have HN : Hid (New w ((bss.take 0).flatten) (.slice a1 0 c1) w1) := by
        rw [List.take_zero]
        exact N1
      simp only [List.length_nil]
      clear N1
      go_wp2_with fail
      go_loopw [6, 27] (fun vb i wr => ∃ j : Nat, j ≤ bss.length ∧ i = .int .i64 (j : Int) ∧ New w ((bss.take j).flatten) vb wr) (fun _ i _ => bss.length - (intOf i).toNat)
      case atStart => exact ⟨0, by omega, rfl, HN.out⟩
      case round =>
        clear HN
        obtain ⟨j, hj, rfl, hN⟩ := hrel
        obtain ⟨xa, xc, rfl⟩ := hN.shape
        by_cases hjn : j < bss.length
        · have hji : (j : Int) < bss.length := by omega
          obtain ⟨y, b, d, rfl, hc, hL⟩ := (HM.out.chg hN.2 (fun _ _ h => h)).at rfl j hjn
          have e1 := congrArg List.length (flat_take bss j hjn)
          have e2 := flat_len bss (j + 1)
          have e3 := HF.out.2
          rw [List.length_append] at e1
          have HE : Hid ((bss.take (j + 1)).flatten = (bss.take j).flatten ++ bss.getD j []) := flat_take bss j hjn
          obtain ⟨T, hT⟩ : ∃ T, (bss.take j).flatten = T := ⟨_, rfl⟩
          obtain ⟨V, hV⟩ : ∃ V, (bss.getD j []) = V := ⟨_, rfl⟩
          rw [hT] at e1 hN HE ⊢
          rw [hV] at e1 hc hL HE
          have HN : Hid (New w T (.slice xa T.length xc) wr) := hN
          have HL : Hid (Lies J wr (.slice b V.length d) (V.map (Value.int .u8))) := hL
          have HB : Hid (T.length + V.length ≤ 100000000) := by show T.length + V.length ≤ _; omega
          clear hT hV e1 e2 e3 hN hL
          go_wp2_with (at_builtin; refine wpList_append_grew rfl _ _ 22 rfl 5 i0 (.int .u8 0) 1 Try.underlying22 hi hz0 hz1 hz2 rfl (.slice xa T.length xc) T.length (T.map (Value.int .u8)) rfl (owns_base HN.out.1 (Nat.zero_le _)) J (.slice b V.length d) (V.map (Value.int .u8)) rfl HL.out (ints_oneCell _ _) (by have := HB.out; simp; unfold maxLen; omega) (by have := HB.out; simp; omega) ?_; intro v5 w5 G5)
          have hN5 : New w (T ++ V) v5 w5 := by
            have hz := HN.out.2.size
            have ho := G5.own
            rw [← List.map_append, List.length_map] at ho
            refine ⟨⟨by simp, ?_⟩, HN.out.2.grown G5.grown (fun k hk => .inr (HN.out.1.lt k hk).1)⟩
            rcases ho.2 with hh | ⟨g, cap, cur, hv, hb, rest⟩
            · exact .inl (by simpa using hh)
            · refine .inr ⟨g, cap, cur, by simpa using hv, ?_, by simpa using rest⟩
              rcases G5.place g (by rw [hv]; rfl) with hp | hp
              · exact (HN.out.1.lt g hp).1
              · omega
          rw [← HE.out] at hN5
          obtain ⟨a5, c5, rfl⟩ := hN5.shape
          clear G5 HN HL HE
          go_wp2
          go_roundw
          case rel => exact ⟨j + 1, by omega, by go_num, hN5⟩
          case measure => simp [intOf]; omega
        · obtain rfl : j = bss.length := by omega
          have hji : (bss.length : Int) ≤ (bss.length : Int) := by omega
          rw [List.take_length] at hN ⊢
          go_wp2
          go_ret
          exact ⟨_, rfl, hN⟩

end Go.Proofs.Ytmchjnmmeankgaa.st
