/- The document's Put: what may not be, and an id that is there. -/
import Derived.Test.YtedhlidmmmlemaaRtk
import Derived.Deep.CutBlock
import Derived.Deep.RegionHeld3
namespace Go.Proofs.Ytedhlidmmmlemaa.st
open Go.ChangeShapes Go.WideShapes Go.ChangeAt Go.RowKit Go.Proofs.Ytedhlidmmmlemaa.hp
set_option linter.unusedVariables false
set_option linter.unusedSimpArgs false

/-- MayBlocks of one block that was just built. -/
theorem rmay_built (w : World) (id : Int) (a : Option Addr) (l c : Nat) (zs : List Int) (hv : Lies (Old w) w (.slice a l c) (zs.map (Value.int .u8))) (hb : Bytes zs) (W : World) (g : Nat) (k : Chg no w W) (hg : W.heap[g]? = some (.cells #[.int .i64 id, .slice a l c] 37 (0, 0))) :
    Calls Try.prog 30 #[.slice (some ⟨g, 0, none⟩) 1 1] W fun e w' => e = .returned (.bool (decide (okB (id, zs)))) ∧ Chg no W w' := by
  have := rmay_any W _ _ (bks_one hg (Lies.later hv k) hb) (by simp)
  rwa [show abs [⟨id, .slice a l c, zs⟩] = [(id, zs)] from rfl, may_one] at this

set_option maxRecDepth 100000 in
theorem rput_bad {F : Nat → Prop} {p : Nat} {L : List Bk} {m : Nat} {w : World} (h : St 32 37 F p L m w) (id : Int) (a : Option Addr) (l c : Nat) (zs : List Int) (hv : Lies (Old w) w (.slice a l c) (zs.map (Value.int .u8))) (hb : Bytes zs) (hn : ¬ okB (id, zs)) :
    Calls Try.prog 11 #[pt p, bv id a l c] w fun e w' => e = .returned (.bool false) ∧ Chg no w w' := by
  have HM : Hid _ := rmay_built w id a l c zs hv hb
  rw [decide_eq_false hn] at HM
  clear hv hb hn h
  go_enter Try.func11, Try.ntmps11
  go_wp2_with fail
  refine (HM.out _ _ (((Chg.refl no w).alloc _).alloc _) (heap_two w _ _).2).mono ?_
  rintro e w1 ⟨rfl, k1⟩
  have K : Hid (Chg no w w1) := (((Chg.refl no w).alloc _).alloc _).then k1
  clear k1
  go_wp2
  go_ret
  exact ⟨rfl, K.out⟩

set_option maxRecDepth 100000 in
set_option maxHeartbeats 100000000 in
theorem rput_goodT {F D : Nat → Prop} {p : Nat} {v : Value} {xs : List BV} {m : Nat} {w : World} (h1 : Stw 32 37 F D p v xs m w) (h3 : okL (abs xs)) (h4 : (abs xs).length ≤ m) (h5 : m ≤ 64) (id : Int) (a : Option Addr) (c : Nat) (zs : List Int) (hv : Lies (Old w) w (.slice a 37 c) (zs.map (Value.int .u8))) (hb : Bytes zs) (hn : okB (id, zs)) (hf : hasL (abs xs) id = true) :
    Calls Try.prog 11 #[pt p, bv id a 37 c] w fun e w' => e = .returned (.bool true) ∧ St 32 37 (Wid F w w') p (putL (abs xs) (id, zs)) (max m (putL (abs xs) (id, zs)).length) w' ∧ Chg F w w' := by
  obtain ⟨i0, hi0, hz0, hz1, hz2⟩ := info_parts' info37
  have h : St 32 37 F p (abs xs) m w := ⟨v, xs, D, h1, rfl, h3, h4, h5⟩
  have HM : Hid _ := rmay_built w id a 37 c zs hv hb
  rw [decide_eq_true hn] at HM
  have HC : Hid (∀ W, Chg no w W → Calls Try.prog 31 #[.slice a 37 c] W fun e w' => ∃ a' c', e = .returned (.slice a' 37 c') ∧ Lies (Anew W w') w' (.slice a' 37 c') (zs.map (Value.int .u8)) ∧ Chg no W w') := by
    intro W k
    have hl : zs.length = 37 := hn.2.2
    refine (copyBytes_any (Lies.later hv k) (by omega)).mono ?_
    rintro e w' ⟨v', rfl, o, k'⟩
    obtain ⟨a', c', rfl⟩ := owns_shape o
    rw [hl] at o ⊢
    exact ⟨a', c', rfl, Lies.of_owns o (fun b hb => o.lt b hb), k'⟩
  have HSt : Hid (St 32 37 F p (abs xs) m w) := h
  have HFi : Hid (∀ W, Chg no w W → Calls Try.prog 16 #[pt p, .int .i64 id] W fun e w' => e = .returned (.int .i64 (findL (abs xs) id)) ∧ w' = W) := fun W k => rfind_any (HSt.out.same k) id
  have H1 : Hid (Stw 32 37 F D p v xs m w) := h1
  have hx : xs.length ≤ 64 := by rw [abs_len] at h4; omega
  obtain ⟨P, hP⟩ : ∃ P, posL (abs xs) id = P := ⟨_, rfl⟩
  have hB : hasL (abs xs) id = true := hf
  have HP : Hid (posL (abs xs) id = P) := hP
  have HB : Hid (hasL (abs xs) id = true) := hB
  have HOK : Hid (okL (abs xs) ∧ (abs xs).length ≤ m ∧ m ≤ 64 ∧ Bytes zs ∧ okB (id, zs)) := ⟨h3, h4, h5, hb, hn⟩
  have hfi : findL (abs xs) id = if true = true then (P : Int) else -1 := by unfold findL; rw [hP, hB]
  rw [hfi] at HFi
  obtain ⟨n, hnn⟩ : ∃ n, xs.length = n := ⟨_, rfl⟩
  have HL : Hid (xs.length = n) := hnn
  rw [hnn] at hx
  clear hv hb h1 hP hB h3 h4 h5 hn hnn hfi HSt
  go_enter Try.func11, Try.ntmps11
  go_wp2_with fail
  refine (HM.out _ _ (((Chg.refl no w).alloc _).alloc _) (heap_two w _ _).2).mono ?_
  rintro e w1 ⟨rfl, k1⟩
  have K1 : Hid (Chg no w w1) := (((Chg.refl no w).alloc _).alloc _).then k1
  have B1 : w1.heap[w.heap.size]? = some (.cells #[.int .i64 id, .slice a 37 c] 37 (0, 0)) := k1.heap (heap_two w _ _).1 (fun h => h)
  obtain ⟨q0, q1⟩ : w1.cell? ⟨w.heap.size, 0, none⟩ = some (.int .i64 id) ∧ w1.cell? ⟨w.heap.size, 1, none⟩ = some (.slice a 37 c) := ⟨(row_cell (xs := [_, _]) B1 0 _ rfl).1, (row_cell (xs := [_, _]) B1 1 _ rfl).1⟩
  have q2 := lt_of_block B1
  have HB1 : Hid _ := B1
  have HC1 : Hid (∀ W, Chg no w1 W → Calls Try.prog 31 #[.slice a 37 c] W fun e w' => ∃ a' c', e = .returned (.slice a' 37 c') ∧ Lies (Anew W w') w' (.slice a' 37 c') (zs.map (Value.int .u8)) ∧ Chg no w1 w' ∧ w'.cell? ⟨w.heap.size, 0, none⟩ = some (.int .i64 id) ∧ w'.cell? ⟨w.heap.size, 1, none⟩ = some (.slice a 37 c) ∧ w.heap.size < w'.heap.size) := by
    intro W k
    refine (HC.out W (K1.out.then k)).mono ?_
    rintro e w' ⟨a', c', rfl, l, k'⟩
    have b := (k.then k').heap HB1.out (fun h => h)
    exact ⟨a', c', rfl, l, k.then k', (row_cell (xs := [_, _]) b 0 _ rfl).1, (row_cell (xs := [_, _]) b 1 _ rfl).1, lt_of_block b⟩
  have HC2 : Hid (∀ W, Chg no w1 W → W.heap[w1.heap.size]? = some (.cells #[.int .i64 0, .slice none 0 0] 37 (0, 0)) → Calls Try.prog 31 #[.slice a 37 c] W fun e w' => ∃ a' c', e = .returned (.slice a' 37 c') ∧ Lies (Anew W w') w' (.slice a' 37 c') (zs.map (Value.int .u8)) ∧ Chg no w1 w' ∧ w'.cell? ⟨w.heap.size, 0, none⟩ = some (.int .i64 id) ∧ w'.cell? ⟨w.heap.size, 1, none⟩ = some (.slice a 37 c) ∧ w.heap.size < w'.heap.size ∧
      w'.cell? ⟨w1.heap.size, 0, none⟩ = some (.int .i64 0) ∧ w'.cell? ⟨w1.heap.size, 1, none⟩ = some (.slice none 0 0) ∧ w'.frozen? ⟨w1.heap.size, 0, none⟩ = false ∧ w'.frozen? ⟨w1.heap.size, 1, none⟩ = false ∧ w1.heap.size < w'.heap.size ∧ w'.heap[w1.heap.size]? = some (.cells #[.int .i64 0, .slice none 0 0] 37 (0, 0)) ∧ w1.heap.size < W.heap.size) := by
    intro W k hW
    refine (HC.out W (K1.out.then k)).mono ?_
    rintro e w' ⟨a', c', rfl, l, k'⟩
    have b := (k.then k').heap HB1.out (fun h => h)
    have b2 := k'.heap hW (fun h => h)
    exact ⟨a', c', rfl, l, k.then k', (row_cell (xs := [_, _]) b 0 _ rfl).1, (row_cell (xs := [_, _]) b 1 _ rfl).1, lt_of_block b, (row_cell (xs := [_, _]) b2 0 _ rfl).1, (row_cell (xs := [_, _]) b2 1 _ rfl).1, (row_cell (xs := [_, _]) b2 0 _ rfl).2, (row_cell (xs := [_, _]) b2 1 _ rfl).2, lt_of_block b2, b2, lt_of_block hW⟩
  clear k1 HM B1 HC
  have HE1 : Hid (∀ W w2 a2 c2, Chg no w1 w2 → Lies (Anew W w2) w2 (.slice a2 37 c2) (zs.map (Value.int .u8)) → w.heap.size ≤ W.heap.size → ∃ Q x y, Value.pointer (some ⟨w2.heap.size, 0, none⟩) = .pointer (some ⟨Q, 0, none⟩) ∧ w.heap.size < Q ∧ (w2.alloc (.cells #[.int .i64 id, .slice a2 37 c2] 37)).heap[Q]? = some (.cells #[.int .i64 id, .slice x 37 y] 37 (0, 0)) ∧ (w2.alloc (.cells #[.int .i64 id, .slice a2 37 c2] 37)).heap[w.heap.size]? = some (.cells #[.int .i64 id, .slice a 37 c] 37 (0, 0)) ∧
      Lies (Anew w (w2.alloc (.cells #[.int .i64 id, .slice a2 37 c2] 37))) (w2.alloc (.cells #[.int .i64 id, .slice a2 37 c2] 37)) (.slice x 37 y) (zs.map (Value.int .u8)) ∧ Chg no w (w2.alloc (.cells #[.int .i64 id, .slice a2 37 c2] 37))) := by
    intro W w2 a2 c2 k2 l2 hW
    have hb := k2.heap HB1.out (fun h => h)
    refine ⟨_, a2, c2, rfl, lt_of_block hb, heap_alloc_new _ _, ((Chg.refl no w2).alloc _).heap hb (fun h => h), (l2.chg ((Chg.refl no w2).alloc _) (fun _ _ h => h)).mono (fun b hb => ⟨?_, ?_⟩), (K1.out.then k2).alloc _⟩
    · have := hb.1
      omega
    · have := hb.2
      simp
      omega
  have HE2 : Hid (∀ W w2 a2 c2, Chg no w1 w2 → Lies (Anew W w2) w2 (.slice a2 37 c2) (zs.map (Value.int .u8)) → w1.heap.size < W.heap.size → w2.heap[w1.heap.size]? = some (.cells #[.int .i64 0, .slice none 0 0] 37 (0, 0)) → ∃ Q x y, Value.pointer (some ⟨w1.heap.size, 0, none⟩) = .pointer (some ⟨Q, 0, none⟩) ∧ w.heap.size < Q ∧ ((w2.setCell ⟨w1.heap.size, 0, none⟩ (.int .i64 id)).setCell ⟨w1.heap.size, 1, none⟩ (.slice a2 37 c2)).heap[Q]? = some (.cells #[.int .i64 id, .slice x 37 y] 37 (0, 0)) ∧
      ((w2.setCell ⟨w1.heap.size, 0, none⟩ (.int .i64 id)).setCell ⟨w1.heap.size, 1, none⟩ (.slice a2 37 c2)).heap[w.heap.size]? = some (.cells #[.int .i64 id, .slice a 37 c] 37 (0, 0)) ∧
      Lies (Anew w ((w2.setCell ⟨w1.heap.size, 0, none⟩ (.int .i64 id)).setCell ⟨w1.heap.size, 1, none⟩ (.slice a2 37 c2))) ((w2.setCell ⟨w1.heap.size, 0, none⟩ (.int .i64 id)).setCell ⟨w1.heap.size, 1, none⟩ (.slice a2 37 c2)) (.slice x 37 y) (zs.map (Value.int .u8)) ∧ Chg no w ((w2.setCell ⟨w1.heap.size, 0, none⟩ (.int .i64 id)).setCell ⟨w1.heap.size, 1, none⟩ (.slice a2 37 c2))) := by
    intro W w2 a2 c2 k2 l2 hW hz
    have hb := k2.heap HB1.out (fun h => h)
    have hq := lt_of_block HB1.out
    have K := chg_two w2 w1.heap.size 0 1 (.int .i64 id) (.slice a2 37 c2)
    have s1 := K1.out.size
    have s2 := k2.size
    have s3 := K.size
    refine ⟨_, a2, c2, rfl, hq, row_set (xs := [_, _]) (row_set (xs := [_, _]) hz 0 (.int .i64 id)) 1 (.slice a2 37 c2), K.heap hb (by omega), (l2.chg K (fun b hb e => by have := hb.1; omega)).mono (fun b hb => ⟨?_, ?_⟩), (K1.out.then k2).trans K (fun b hb => .inr (by omega))⟩
    · have := hb.1
      omega
    · have := hb.2
      omega
  have s1 := K1.out.size
  go_upto_region 3 with fail
  go_cut [5] from 12 to 17 (fun own wc => ∃ Q x y, own = .pointer (some ⟨Q, 0, none⟩) ∧ w.heap.size < Q ∧ wc.heap[Q]? = some (.cells #[.int .i64 id, .slice x 37 y] 37 (0, 0)) ∧ wc.heap[w.heap.size]? = some (.cells #[.int .i64 id, .slice a 37 c] 37 (0, 0)) ∧ Lies (Anew w wc) wc (.slice x 37 y) (zs.map (Value.int .u8)) ∧ Chg no w wc)
  case first =>
    clear HFi HOK H1 HP HB HL
    go_region_with (go_at_call 31; first
      | (refine (HC2.out _ ?_ ?_).mono ?_; exact ((Chg.refl no w1).alloc _).drew; exact heap_alloc_new w1 _; rintro e w2 ⟨a2, c2, rfl, l2, k2, j0, j1, j2, j3, j4, j5, j6, j7, j8, j9⟩; have HY := HE2.out _ _ _ _ k2 l2 j9 j8; have HY2 : Hid _ := HY; clear HY l2 k2)
      | (refine (HC1.out _ ?_).mono ?_; exact (Chg.refl no w1).drew; rintro e w2 ⟨a2, c2, rfl, l2, k2, j0, j1, j2⟩; have HY := HE1.out _ _ _ _ k2 l2 s1; have HY2 : Hid _ := HY; clear HY l2 k2))
    all_goals (go_wp2; go_meet; case rel => exact HY2.out)
  case rest =>
    clear HC1 HC2 HE1 HE2 HB1 q0 q1 q2
    obtain ⟨Q, a2, c2, rfl, hQ, B4, Bw, l4, k4⟩ := hcut
    have K4 : Hid (Chg no w wc) := k4
    have L4 : Hid (Lies (Anew w wc) wc (.slice a2 37 c2) (zs.map (Value.int .u8))) := l4
    obtain ⟨t0, t1⟩ : wc.cell? ⟨Q, 0, none⟩ = some (.int .i64 id) ∧ wc.cell? ⟨Q, 1, none⟩ = some (.slice a2 37 c2) := ⟨(row_cell (xs := [_, _]) B4 0 _ rfl).1, (row_cell (xs := [_, _]) B4 1 _ rfl).1⟩
    have t2 := lt_of_block B4
    obtain ⟨t3, t4⟩ : wc.cell? ⟨w.heap.size, 0, none⟩ = some (.int .i64 id) ∧ wc.cell? ⟨w.heap.size, 1, none⟩ = some (.slice a 37 c) := ⟨(row_cell (xs := [_, _]) Bw 0 _ rfl).1, (row_cell (xs := [_, _]) Bw 1 _ rfl).1⟩
    have t5 := lt_of_block Bw
    have S4 := H1.out.same k4
    have HS4 : Hid (Stw 32 37 F D p v xs m wc) := S4
    have HBQ : Hid (wc.heap[Q]? = some (.cells #[.int .i64 id, .slice a2 37 c2] 37 (0, 0))) := B4
    have HBw : Hid (wc.heap[w.heap.size]? = some (.cells #[.int .i64 id, .slice a 37 c] 37 (0, 0))) := Bw
    obtain ⟨d0, d1, d2, d3, d4⟩ := S4.cells
    have hplt := H1.out.lt p H1.out.fp
    have hpq : p ≠ Q := by omega
    have hpw : p ≠ w.heap.size := by omega
    have HR := HFi.out wc k4
    clear l4 B4 Bw HFi k4 s1
    go_wp2_with fail
    refine HR.mono ?_
    rintro e w5 ⟨rfl, rfl⟩
    clear HR
    · have hlt : P < n := by
        have := (has_at HB.out).1
        rwa [HP.out, abs_len, HL.out] at this
      have hPi : (P : Int) < n := by omega
      have hif : (if true = true then (P : Int) else -1) = P := rfl
      have hP0 : (0 : Int) ≤ P := by omega
      obtain ⟨a0, c0, hv⟩ := S4.shape
      rw [HL.out] at hv
      have hv2 : ∃ g, v = .slice (some ⟨g, 0, none⟩) n c0 := by
        rcases S4.row.2 with ⟨_, h0⟩ | ⟨g, cap, cur, hh, _⟩
        · rw [HL.out] at h0
          omega
        · rw [hh] at hv
          cases hv
          exact ⟨g, by rw [hh, HL.out]⟩
      obtain ⟨g, rfl⟩ := hv2
      have S5 := S4.row
      rw [HL.out] at S5
      have u0 := S5.frozenAt (P * 2)
      have u1 := S5.frozenAt (P * 2 + 1)
      have u2 := (S5.lt g rfl).2
      obtain ⟨x0, x1, u3, u4⟩ : ∃ x0 x1, w5.cell? ⟨g, P * 2, none⟩ = some x0 ∧ w5.cell? ⟨g, P * 2 + 1, none⟩ = some x1 := by
        have l := S5.1
        exact ⟨_, _, by rw [S5.cellAt _ (by omega), List.getElem?_eq_getElem (by omega)], by rw [S5.cellAt _ (by omega), List.getElem?_eq_getElem (by omega)]⟩
      clear S5 S4 hv
      go_wp2_with fail
      go_region
      all_goals
        have HE : Hid (St 32 37 (Wid F w ((w5.setCell ⟨g, P * 2, none⟩ (.int .i64 id)).setCell ⟨g, P * 2 + 1, none⟩ (.slice a2 37 c2)).drew) p (putL (abs xs) (id, zs)) (max m (putL (abs xs) (id, zs)).length) ((w5.setCell ⟨g, P * 2, none⟩ (.int .i64 id)).setCell ⟨g, P * 2 + 1, none⟩ (.slice a2 37 c2)).drew ∧ Chg F w ((w5.setCell ⟨g, P * 2, none⟩ (.int .i64 id)).setCell ⟨g, P * 2 + 1, none⟩ (.slice a2 37 c2)).drew) := by
          obtain ⟨q1, q2, q3, q4, q5⟩ := HOK.out
          have hl := put_len (L := abs xs) (id, zs)
          rw [HB.out, if_pos rfl] at hl
          obtain ⟨E1, E2⟩ := end_set H1.out K4.out ⟨id, .slice a2 37 c2, zs⟩ L4.out q4 P g c0 (by rw [HL.out]) (by rw [HL.out]; exact hlt) _ ((Chg.refl no _).drew)
          have ha : abs (xs.set P ⟨id, .slice a2 37 c2, zs⟩) = putL (abs xs) (id, zs) := by
            rw [abs_set _ _ _ (by rw [HL.out]; exact hlt)]
            unfold putL
            rw [HB.out, HP.out, if_pos rfl]
            rfl
          have hm : max m (putL (abs xs) (id, zs)).length = m := by omega
          have ho := q1.put q5
          rw [hm]
          exact ⟨⟨_, _, _, E1, ha, ho, by omega, q3⟩, E2⟩
        clear HS4 L4 HOK HP HB H1 K4 K1 HBQ HBw
        go_wp2
        go_ret
        exact ⟨rfl, HE.out.1, HE.out.2⟩

end Go.Proofs.Ytedhlidmmmlemaa.st
