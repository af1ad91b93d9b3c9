/- Contracts of Xor and of the document's Xor. -/
import Derived.Test.YtmchjnmmeankgaaBsc
namespace Go.Proofs.Ytmchjnmmeankgaa.st
open Go.ChangeShapes Go.WideShapes Go.ChangeAt Go.RowKit Go.Proofs.Ytmchjnmmeankgaa.hp Go.Proofs.Ytmchjnmmeankgaa.dg
set_option linter.unusedVariables false

/-- The first k bytes xored. -/
def xorK (zs bs : List Int) (k : Nat) : List Int := (List.range zs.length).map fun i => if i < k then bits .xor .u8 (zs.getD i 0) (bs.getD i 0) else zs.getD i 0

/-- One text with another. -/
def xor2 (zs bs : List Int) : List Int := xorK zs bs (min zs.length bs.length)

def xorAll (zs : List Int) (bss : List (List Int)) : List Int := bss.foldl xor2 zs

theorem xorK_length (zs bs : List Int) (k : Nat) : (xorK zs bs k).length = zs.length := by simp [xorK]
theorem xor2_length (zs bs : List Int) : (xor2 zs bs).length = zs.length := xorK_length _ _ _

theorem xorK_get (zs bs : List Int) (k i : Nat) (hi : i < zs.length) : (xorK zs bs k)[i]? = some (if i < k then bits .xor .u8 (zs.getD i 0) (bs.getD i 0) else zs.getD i 0) := by
  simp [xorK, hi]

theorem xorK_zero (zs bs : List Int) : xorK zs bs 0 = zs := by
  apply List.ext_getElem?
  intro i
  by_cases hi : i < zs.length
  · rw [xorK_get _ _ _ _ hi, if_neg (by omega), List.getD_eq_getElem?_getD, List.getElem?_eq_getElem hi]
    rfl
  · rw [List.getElem?_eq_none (by rw [xorK_length]; omega), List.getElem?_eq_none (by omega)]

theorem xorK_succ (zs bs : List Int) (k : Nat) (hk : k < zs.length) : xorK zs bs (k + 1) = (xorK zs bs k).set k (bits .xor .u8 (zs.getD k 0) (bs.getD k 0)) := by
  apply List.ext_getElem?
  intro i
  by_cases hi : i < zs.length
  · rw [xorK_get _ _ _ _ hi, List.getElem?_set]
    by_cases hik : k = i
    · subst hik
      rw [if_pos (by omega), if_pos rfl, if_pos (by rw [xorK_length]; omega)]
    · rw [if_neg hik, xorK_get _ _ _ _ hi]
      by_cases h1 : i < k
      · rw [if_pos (by omega), if_pos h1]
      · rw [if_neg (by omega), if_neg h1]
  · rw [List.getElem?_eq_none (by rw [xorK_length]; omega), List.getElem?_eq_none (by simp [xorK_length]; omega)]

theorem xorAll_length (bss : List (List Int)) (zs : List Int) : (xorAll zs bss).length = zs.length := by
  induction bss generalizing zs with
  | nil => rfl
  | cons b bss ih => rw [xorAll, List.foldl_cons]; exact (ih _).trans (xor2_length _ _)

theorem xorAll_take (zs : List Int) (bss : List (List Int)) (j : Nat) (hj : j < bss.length) : xorAll zs (bss.take (j + 1)) = xor2 (xorAll zs (bss.take j)) (bss.getD j []) := by
  unfold xorAll
  rw [List.take_succ_eq_append_getElem hj, List.foldl_append]
  simp [List.getD_eq_getElem?_getD, List.getElem?_eq_getElem hj]

/-- A byte of a row of the call's own. -/
theorem owns_at {w : World} {base n c k : Nat} {a : Option Addr} {zs : List Int} {z : Int} (h : w.ownsRow base 5 1 (.slice a n c) n (zs.map (Value.int .u8))) (hz : zs[k]? = some z) :
    ∃ g, a = some ⟨g, 0, none⟩ ∧ base ≤ g ∧ w.cell? ⟨g, k, none⟩ = some (.int .u8 z) ∧ w.frozen? ⟨g, k, none⟩ = false := by
  have hk : k < zs.length := (List.getElem?_eq_some_iff.1 hz).1
  have hl := h.1
  simp only [List.length_map] at hl
  rcases h.2 with ⟨hv, hn⟩ | ⟨g, cap, cur, hv, hb, _⟩
  · omega
  · cases hv
    refine ⟨g, rfl, hb, ?_, h.frozenAt k⟩
    rw [h.cellAt k (by omega), List.getElem?_map, hz]
    rfl

theorem lies_at {J : Nat → Prop} {w : World} {a : Option Addr} {l c : Nat} {zs : List Int} (h : Lies J w (.slice a l c) (zs.map (Value.int .u8))) (k : Nat) (hk : k < zs.length) : ∃ y, a = some y ∧ w.cell? (y.add k) = some (.int .u8 (zs.getD k 0)) := by
  obtain ⟨a', c', hv, hc⟩ := h.slice
  cases hv
  obtain ⟨y, hy, _, hy2⟩ := hc k (.int .u8 (zs.getD k 0)) (by rw [List.getElem?_map, List.getD_eq_getElem?_getD, List.getElem?_eq_getElem hk]; rfl)
  exact ⟨y, hy, hy2⟩

/-- A byte set. -/
theorem New.set {w w' : World} {g n c k : Nat} {zs : List Int} (h : New w zs (.slice (some ⟨g, 0, none⟩) n c) w') (u : Int) : New w (zs.set k u) (.slice (some ⟨g, 0, none⟩) n c) (w'.setCell ⟨g, k, none⟩ (.int .u8 u)) := by
  have hn : n = zs.length := by
    obtain ⟨a, c', hv⟩ := h.shape
    cases hv
    rfl
  subst hn
  have := h.1.stored k (.int .u8 u)
  refine ⟨?_, h.2.setCell _ _ (.inr (h.1.lt g rfl).1)⟩
  rw [List.length_set, List.map_set]
  exact this.1

theorem New.drew {w w' : World} {v : Value} {zs : List Int} (h : New w zs v w') : New w zs v w'.drew := ⟨h.1.drew, h.2.drew⟩

theorem Many.val {J : Nat → Prop} {w : World} {v : Value} {vs : List Value} {bss : List (List Int)} (h : Many J w v vs bss) (i : Nat) (hi : i < bss.length) : ∃ b d, vs.getD i undef = .slice b (bss.getD i []).length d := by
  obtain ⟨b, d, hb, _⟩ := (h.each i hi).slice
  rw [List.length_map] at hb
  exact ⟨b, d, hb⟩

theorem Many.cell {J : Nat → Prop} {w : World} {v : Value} {vs : List Value} {bss : List (List Int)} (h : Many J w v vs bss) {a : Option Addr} {l c : Nat} (hv : v = .slice a l c) (i : Nat) (hi : i < bss.length) : ∃ x, a = some x ∧ w.cell? (x.add i) = some (vs.getD i undef) := by
  obtain ⟨a', c', hv', hc⟩ := h.row.slice
  rw [hv'] at hv
  cases hv
  obtain ⟨x, hx, _, hx2⟩ := hc i (vs.getD i undef) (by rw [List.getD_eq_getElem?_getD, List.getElem?_eq_getElem (by rw [h.len]; exact hi)]; rfl)
  exact ⟨x, hx, hx2⟩

set_option maxRecDepth 100000 in
set_option maxHeartbeats 4000000 in
theorem xor_any (w : World) (J : Nat → Prop) (va : Value) (zs : List Int) (hva : Lies J w va (zs.map (Value.int .u8))) (v : Value) (vs : List Value) (bss : List (List Int)) (h : Many J w v vs bss) (hl : bss.length ≤ 1000) (hf : zs.length ≤ 100000000) (hbs : ∀ i, i < bss.length → (bss.getD i []).length ≤ 100000000) :
    Calls Try.prog 26 #[va, v] w fun e w' => ∃ v', e = .returned v' ∧ New w (xorAll zs bss) v' w' := by
  have HC := clone_new va zs J w hva hf
  obtain ⟨x, c, rfl, _⟩ := h.row.slice
  rw [h.len]
  have hli : (bss.length : Int) ≤ 1000 := by omega
  have HM : Hid (Many J w (.slice x bss.length c) vs bss) := by have := h; rw [h.len] at this; exact this
  have HB : Hid (∀ i, i < bss.length → (bss.getD i []).length ≤ 100000000) := hbs
  obtain ⟨ax, ac, rfl, _⟩ := hva.slice
  simp only [List.length_map] at HC ⊢
  clear h hva hbs
  go_enter Try.func26, Try.ntmps26
  go_wp2_with fail
  refine HC.mono ?_
  rintro e w1 ⟨v1, rfl, N1⟩
  obtain ⟨g, cg, rfl⟩ := N1.shape
  have HN : Hid (New w (xorAll zs (bss.take 0)) (.slice g zs.length cg) w1) := N1
  clear HC N1
  go_wp2_with fail
  go_loopw [13] (fun i wr => ∃ j : Nat, j ≤ bss.length ∧ i = .int .i64 (j : Int) ∧ New w (xorAll zs (bss.take j)) (.slice g zs.length cg) wr) (fun i _ => bss.length - (intOf i).toNat)
  case atStart => exact ⟨0, by omega, rfl, HN.out⟩
  case round =>
    clear HN
    obtain ⟨j, hj, rfl, hN⟩ := hrel
    by_cases hjn : j < bss.length
    · have hji : (j : Int) < bss.length := by omega
      obtain ⟨y, rfl, hc⟩ := (HM.out.chg hN.2 (fun _ _ h => h)).cell rfl j hjn
      obtain ⟨b, d, hbd⟩ := HM.out.val j hjn
      rw [hbd] at hc
      have HE : Hid (xorAll zs (bss.take (j + 1)) = xor2 (xorAll zs (bss.take j)) (bss.getD j [])) := xorAll_take zs bss j hjn
      have hT2 := xorAll_length (bss.take j) zs
      have hV2 := HB.out j hjn
      obtain ⟨T, hT⟩ : ∃ T, xorAll zs (bss.take j) = T := ⟨_, rfl⟩
      obtain ⟨V, hV⟩ : ∃ V, (bss.getD j []) = V := ⟨_, rfl⟩
      rw [hT] at hN HE hT2
      rw [hV] at hc HE hV2
      have HL : Hid (∀ wq, Chg no w wq → Lies J wq (.slice b V.length d) (V.map (Value.int .u8))) := by
        intro wq kq
        have := (HM.out.each j hjn).chg kq (fun _ _ h => h)
        rw [hbd, hV] at this
        exact this
      have HN : Hid (New w (xorK T V 0) (.slice g zs.length cg) wr) := by rw [xorK_zero]; exact hN
      have HT2 : Hid (T.length = zs.length) := hT2
      have hAi : (zs.length : Int) ≤ 100000000 := by omega
      have hVi : (V.length : Int) ≤ 100000000 := by omega
      obtain ⟨m, hm⟩ : ∃ m, min zs.length V.length = m := ⟨_, rfl⟩
      have HMm : Hid (xor2 T V = xorK T V m ∧ m ≤ zs.length ∧ m ≤ V.length) := ⟨by rw [xor2, hT2, hm], by omega, by omega⟩
      have hmin : (if V.length < zs.length then (V.length : Int) else (zs.length : Int)) = m := by split <;> omega
      clear hT hV hN hT2 hV2 hm hbd
      go_wp2_with fail
      go_loopw [22] (fun i wr => ∃ k : Nat, k ≤ m ∧ i = .int .i64 (k : Int) ∧ New w (xorK T V k) (.slice g zs.length cg) wr) (fun i _ => m - (intOf i).toNat)
      case atStart => exact ⟨0, by omega, rfl, HN.out⟩
      case round =>
        clear HN
        obtain ⟨k, hk, rfl, hN⟩ := hrel
        by_cases hkm : k < m
        · have hki : (k : Int) < m := by omega
          have hkz : k < zs.length := by have := HMm.out.2.1; omega
          have hkT : k < T.length := by rw [HT2.out]; exact hkz
          have hkV : k < V.length := by have := HMm.out.2.2; omega
          have hkzi : (k : Int) < zs.length := by omega
          have hkVi : (k : Int) < V.length := by omega
          obtain ⟨gg, rfl, hgb, c1, f1⟩ := owns_at (k := k) (z := T.getD k 0) (by have := hN.1; rw [xorK_length, HT2.out] at this; exact this) (by rw [xorK_get _ _ _ _ hkT, if_neg (by omega)])
          obtain ⟨yb, rfl, c2⟩ := lies_at (HL.out _ hN.2) k hkV
          have HX : Hid (New w (xorK T V (k + 1)) (.slice (some ⟨gg, 0, none⟩) zs.length cg) ((wr.setCell ⟨gg, k, none⟩ (.int .u8 (bits .xor .u8 (T.getD k 0) (V.getD k 0)))).drew)) := by
            rw [xorK_succ T V k hkT]
            exact (hN.set _).drew
          obtain ⟨A, hA⟩ : ∃ A, T.getD k 0 = A := ⟨_, rfl⟩
          obtain ⟨B, hB⟩ : ∃ B, V.getD k 0 = B := ⟨_, rfl⟩
          rw [hA] at c1 HX
          rw [hB] at c2 HX
          clear hA hB hN
          go_wp2_with fail
          go_region
          all_goals go_wp2
          all_goals go_roundw
          all_goals first | exact ⟨k + 1, by omega, by go_num, HX.out⟩ | (simp [intOf]; omega)
        · obtain rfl : k = m := by omega
          have hki : (k : Int) ≤ (k : Int) := by omega
          have hN2 : New w (xorAll zs (bss.take (j + 1))) (.slice g zs.length cg) wr := by rw [HE.out, HMm.out.1]; exact hN
          go_wp2
          go_roundw
          case rel => exact ⟨j + 1, by omega, by go_num, hN2⟩
          case measure => simp [intOf]; omega
    · obtain rfl : j = bss.length := by omega
      have hji : (bss.length : Int) ≤ (bss.length : Int) := by omega
      rw [List.take_length] at hN
      go_wp2
      go_ret
      exact ⟨_, rfl, hN⟩

set_option maxRecDepth 100000 in
set_option maxHeartbeats 4000000 in
theorem rxor_any (w : World) (J : Nat → Prop) (va : Value) (zs : List Int) (hva : Lies J w va (zs.map (Value.int .u8))) (vb : Value) (V : List Int) (hvb : Lies J w vb (V.map (Value.int .u8))) (hf : zs.length ≤ 100000000) (hbs : V.length ≤ 100000000) :
    Calls Try.prog 27 #[va, vb] w fun e w' => ∃ v', e = .returned v' ∧ New w (xor2 zs V) v' w' := by
  have HC := copyBytes_any va zs J w hva hf
  obtain ⟨b, d, rfl, _⟩ := hvb.slice
  obtain ⟨ax, ac, rfl, _⟩ := hva.slice
  simp only [List.length_map] at HC hvb ⊢
  have HL : Hid (∀ wq, Chg no w wq → Lies J wq (.slice b V.length d) (V.map (Value.int .u8))) := fun wq kq => hvb.chg kq (fun _ _ h => h)
  obtain ⟨m, hm⟩ : ∃ m, min zs.length V.length = m := ⟨_, rfl⟩
  have HMm : Hid (xor2 zs V = xorK zs V m ∧ m ≤ zs.length ∧ m ≤ V.length ∧ (m = zs.length ∨ m = V.length)) := ⟨by rw [xor2, hm], by omega, by omega, by omega⟩
  have hAi : (zs.length : Int) ≤ 100000000 := by omega
  have hVi : (V.length : Int) ≤ 100000000 := by omega
  clear hva hvb hm
  go_enter Try.func27, Try.ntmps27
  go_wp2_with fail
  refine HC.mono ?_
  rintro e w1 ⟨v1, rfl, N1⟩
  obtain ⟨g, cg, rfl⟩ := N1.shape
  have HN : Hid (New w (xorK zs V 0) (.slice g zs.length cg) w1) := by rw [xorK_zero]; exact N1
  clear HC N1
  go_wp2_with fail
  go_loopw [6] (fun i wr => ∃ k : Nat, k ≤ m ∧ i = .int .i64 (k : Int) ∧ New w (xorK zs V k) (.slice g zs.length cg) wr) (fun i _ => m - (intOf i).toNat)
  case atStart => exact ⟨0, by omega, rfl, HN.out⟩
  case round =>
    clear HN
    obtain ⟨k, hk, rfl, hN⟩ := hrel
    by_cases hkm : k < m
    · have hkz : k < zs.length := by have := HMm.out.2.1; omega
      have hkV : k < V.length := by have := HMm.out.2.2; omega
      have hkzi : (k : Int) < zs.length := by omega
      have hkVi : (k : Int) < V.length := by omega
      obtain ⟨gg, rfl, hgb, c1, f1⟩ := owns_at (k := k) (z := zs.getD k 0) (by have := hN.1; rw [xorK_length] at this; exact this) (by rw [xorK_get _ _ _ _ hkz, if_neg (by omega)])
      obtain ⟨yb, rfl, c2⟩ := lies_at (HL.out _ hN.2) k hkV
      have HX : Hid (New w (xorK zs V (k + 1)) (.slice (some ⟨gg, 0, none⟩) zs.length cg) ((wr.setCell ⟨gg, k, none⟩ (.int .u8 (bits .xor .u8 (zs.getD k 0) (V.getD k 0)))).drew)) := by
        rw [xorK_succ zs V k hkz]
        exact (hN.set _).drew
      obtain ⟨A, hA⟩ : ∃ A, zs.getD k 0 = A := ⟨_, rfl⟩
      obtain ⟨B, hB⟩ : ∃ B, V.getD k 0 = B := ⟨_, rfl⟩
      rw [hA] at c1 HX
      rw [hB] at c2 HX
      clear hA hB hN
      go_wp2_with fail
      go_region
      all_goals go_wp2
      all_goals go_roundw
      all_goals first | exact ⟨k + 1, by omega, by go_num, HX.out⟩ | (simp [intOf]; omega)
    · obtain rfl : k = m := by omega
      have hN2 : New w (xor2 zs V) (.slice g zs.length cg) wr := by rw [HMm.out.1]; exact hN
      clear hN
      by_cases hkz : k < zs.length
      · have hkzi : (k : Int) < zs.length := by omega
        have hkVi : (V.length : Int) ≤ k := by have := HMm.out.2; omega
        go_wp2
        go_ret
        exact ⟨_, rfl, hN2⟩
      · have hkzi : (zs.length : Int) ≤ k := by omega
        go_wp2
        go_ret
        exact ⟨_, rfl, hN2⟩

end Go.Proofs.Ytmchjnmmeankgaa.st
