/- The contract of settle: all in flight is taken back, then what is kept is done again. -/
import Derived.Test.YteehphmedmplkaaMake
namespace Go.Proofs.Yteehphmedmplkaa.st
open Go.ChangeShapes Go.WideShapes Go.ChangeAt Go.RowKit Go.Proofs.Yteehphmedmplkaa.hp Go.Proofs.Yteehphmedmplkaa.md
set_option linter.unusedVariables false

theorem Sto.flyAt {w : World} {p gc : Nat} {F I : Nat → Prop} {m : Mod} {vf vk : Value} (h : Sto w p gc F I m vf vk) :
    ∃ af cf, vf = .slice af m.W.length cf ∧ ∀ i, i < m.W.length → ∃ gf, af = some ⟨gf, 0, none⟩ ∧ gf ≠ p ∧ gf ≠ gc ∧ w.cell? ⟨gf, i * 3, none⟩ = some (.int .i64 (m.W.getD i dW).1) ∧
      w.cell? ⟨gf, i * 3 + 1, none⟩ = some ((redo m.V m.W all i).getD (m.W.getD i dW).1 dC).1 ∧ w.cell? ⟨gf, i * 3 + 2, none⟩ = some (m.W.getD i dW).2.1 := by
  have hs := h.fpg
  rcases h.fly.2 with ⟨rfl, hn⟩ | ⟨g, cap, cur, rfl, hb, hg, hc, hm, hsz, ht⟩
  · exact ⟨_, _, by rw [hn], fun i hi => by omega⟩
  · refine ⟨_, _, rfl, fun i hi => ⟨g, rfl, (hs g rfl).1, (hs g rfl).2.1, ?_⟩⟩
    obtain ⟨r1, r2, r3⟩ := rows_get m.V m.W i m.W.length hi
    exact ⟨by rw [h.fly.cellAt (i * 3) (by omega)]; exact r1, by rw [h.fly.cellAt (i * 3 + 1) (by omega)]; exact r2, by rw [h.fly.cellAt (i * 3 + 2) (by omega)]; exact r3⟩

theorem lies_bool {J : Nat → Prop} {w : World} {v : Value} {bs : List Bool} (h : Lies J w v (bs.map Value.bool)) : ∃ a c, v = .slice a bs.length c ∧ ∀ i, i < bs.length → ∃ x, a = some x ∧ J x.block ∧ w.cell? (x.add i) = some (.bool (bs.getD i false)) := by
  obtain ⟨a, c, rfl, hh⟩ := h.slice
  refine ⟨a, c, by simp, fun i hi => hh i _ ?_⟩
  rw [List.getElem?_map, List.getD_eq_getElem?_getD, List.getElem?_eq_getElem hi]
  rfl

theorem Byt.slice {I : Nat → Prop} {w : World} {sz : Nat} {c : Cell} (h : Byt I w sz c) : ∃ x l k, c.1 = .slice x l k := by
  rcases h.2 with ⟨h, _⟩ | ⟨h, _⟩ | ⟨x, k, h, _⟩
  · exact ⟨_, _, _, h⟩
  · exact ⟨_, _, _, h⟩
  · exact ⟨_, _, _, h⟩

theorem Sto.redo_slice {w : World} {p gc : Nat} {F I : Nat → Prop} {m : Mod} {vf vk : Value} (h : Sto w p gc F I m vf vk) (k : Nat → Bool) (i a : Nat) (hi : i ≤ m.W.length) (ha : a < m.V.length) : ∃ x l c, ((redo m.V m.W k i).getD a dC).1 = .slice x l c := by
  have hl := redo_length m.V m.W k i
  have hm : (redo m.V m.W k i).getD a dC ∈ redo m.V m.W k i := by
    rw [List.getD_eq_getElem?_getD, List.getElem?_eq_getElem (by omega)]
    exact List.getElem_mem _
  rcases redo_mem _ _ _ _ hi _ hm with hc | ⟨y, hy, he⟩
  · exact (h.bytV _ hc).slice
  · rw [← he]; exact (h.bytW _ hy).slice

theorem Sto.fly_slice {w : World} {p gc : Nat} {F I : Nat → Prop} {m : Mod} {vf vk : Value} (h : Sto w p gc F I m vf vk) (i : Nat) (hi : i < m.W.length) : ∃ x l c, (m.W.getD i dW).2.1 = .slice x l c := by
  rw [List.getD_eq_getElem?_getD, List.getElem?_eq_getElem hi]
  exact (h.bytW _ (List.getElem_mem _)).slice

theorem sto_settled {w w' : World} {p gc : Nat} {F I : Nat → Prop} {m : Mod} {vf vk : Value} {keep : List Bool} (h : Sto w p gc F I m vf vk) (c : Chg (fun k => k = gc) w w')
    (hr : w'.heap[gc]? = some (.cells ((redo m.V m.W (of keep) m.W.length).map (·.1)).toArray 31 (0, 0))) :
    Sto (w'.setCell ⟨p, 2, none⟩ (.slice none 0 0)) p gc F I (m.settled keep) (.slice none 0 0) vk := by
  have hl := redo_length m.V m.W (of keep) m.W.length
  have c2 : Chg (fun k => k = gc ∨ k = p) w (w'.setCell ⟨p, 2, none⟩ (.slice none 0 0)) := (c.mono fun k hk => .inl (.inl hk)).setCell _ _ (.inl (.inr rfl))
  have hI : ∀ k, I k → ¬ (k = gc ∨ k = p) := fun k hk e => by rcases e with rfl | rfl; exact h.igc hk; exact h.ip hk
  refine ⟨?_, ?_, World.ownsRow_nil _ _ _ _, h.kep.chg c2 hI, ?_, by intro x hx; simp [Mod.settled] at hx, by intro x hx; simp [Mod.settled] at hx, ?_, h.pgc, by intro k hk; simp [Value.ownBlock] at hk, h.ip, h.igc, h.fp, h.fgc, h.fi, fun k hk => Nat.lt_of_lt_of_le (h.lt k hk) c2.size⟩
  · have hb := c.heap h.blk h.pgc
    have := row_set (xs := [_, _, _, _, _, _, _]) hb 2 (.slice none 0 0)
    rw [this]
    simp [Mod.settled, hl]
  · rw [Below.heap_setCell _ _ _ _ (by simpa using fun e => h.pgc e.symm), hr]
    simp [Mod.now, Mod.settled, redo]
  · intro x hx
    rcases redo_mem _ _ _ _ (Nat.le_refl _) _ hx with hc | ⟨y, hy, rfl⟩
    · exact (h.bytV _ hc).chg c2 hI
    · exact (h.bytW _ hy).chg c2 hI
  · have := h.num
    simp [Mod.settled, hl]
    omega

set_option maxHeartbeats 2000000 in
theorem settle_any {w : World} {p gc : Nat} {F I J : Nat → Prop} {m : Mod} {vf vk : Value} (h : Sto w p gc F I m vf vk) (hops : m.ops ≤ 1000000000) (v : Value) (keep : List Bool) (hk : Lies J w v (keep.map Value.bool)) (hkl : keep.length ≤ 100000000000) (hJ : ∀ k, J k → k ≠ gc) :
    Calls Try.prog 50 #[.pointer (some ⟨p, 0, none⟩), v] w fun e w' => e = .returned (.tuple #[]) ∧ Sto w' p gc F I (m.settled keep) (.slice none 0 0) vk ∧ Chg (fun k => k = gc ∨ k = p) w w' := by
  obtain ⟨c0, c1, c2, c3, c4, c5, c6⟩ := h.cells
  obtain ⟨af, cf, rfl, hfly⟩ := h.flyAt
  obtain ⟨ak, ck, rfl, hkp⟩ := lies_bool hk
  have hn := h.num
  have hpgc := h.pgc
  have hgcp : ¬ gc = p := fun e => h.pgc e.symm
  have hV : m.V.length ≤ 65536 := hn.2.2.2.1
  have hWb : m.W.length ≤ 1000000000 := by omega
  obtain ⟨n, hnn⟩ : ∃ n, n = m.W.length := ⟨_, rfl⟩
  have hadr : ∀ i, i < n → (m.W.getD i dW).1 < m.V.length := by
    intro i hi
    rw [List.getD_eq_getElem?_getD, List.getElem?_eq_getElem (show i < m.W.length by omega)]
    exact h.adr _ (List.getElem_mem _)
  have hrow : w.heap[gc]? = some (.cells ((redo m.V m.W all n).map (·.1)).toArray 31 (0, 0)) := by rw [hnn]; exact h.row
  rw [← hnn] at c2 hfly hWb
  have HN : Hid (n = m.W.length) := hnn
  have H := h
  have HF : Hid (∀ i, i < n → ∃ gf, af = some ⟨gf, 0, none⟩ ∧ gf ≠ p ∧ gf ≠ gc ∧ w.cell? ⟨gf, i * 3, none⟩ = some (.int .i64 (m.W.getD i dW).1) ∧
      w.cell? ⟨gf, i * 3 + 1, none⟩ = some ((redo m.V m.W all i).getD (m.W.getD i dW).1 dC).1 ∧ w.cell? ⟨gf, i * 3 + 2, none⟩ = some (m.W.getD i dW).2.1) := hfly
  have HK : Hid (∀ i, i < keep.length → ∃ x, ak = some x ∧ J x.block ∧ w.cell? (x.add i) = some (.bool (keep.getD i false))) := hkp
  have HA : Hid (∀ i, i < n → (m.W.getD i dW).1 < m.V.length) := hadr
  have HR : Hid (w.heap[gc]? = some (.cells ((redo m.V m.W all n).map (·.1)).toArray 31 (0, 0))) := hrow
  clear hnn hfly hkp hadr hrow h hk hn
  go_enter Try.func50, Try.ntmps50
  go_wp2_with fail
  go_loopw [4] (fun i wr => ∃ k : Nat, k ≤ n ∧ i = .int .i64 ((k : Int) - 1) ∧ wr.heap[gc]? = some (.cells ((redo m.V m.W all k).map (·.1)).toArray 31 (0, 0)) ∧ Chg (fun k => k = gc) w wr) (fun i _ => (intOf i + 1).toNat)
  case atStart => exact ⟨n, by omega, rfl, HR.out, Chg.refl _ _⟩
  case round =>
    obtain ⟨k, hk, rfl, hrw, C⟩ := hrel
    have e1 := C.cell c1 hpgc
    have e2 := C.cell c2 hpgc
    rcases k with _ | k
    · have hk0 : ((0 : Nat) : Int) - 1 = -1 := by omega
      rw [hk0]
      have S0 : wr.heap[gc]? = some (.cells ((redo m.V m.W (of keep) 0).map (·.1)).toArray 31 (0, 0)) := hrw
      clear hrw
      go_wp2_with fail
      go_loopw [43] (fun i wt => ∃ k : Nat, k ≤ n ∧ i = .int .i64 (k : Int) ∧ wt.heap[gc]? = some (.cells ((redo m.V m.W (of keep) k).map (·.1)).toArray 31 (0, 0)) ∧ Chg (fun k => k = gc) w wt) (fun i _ => n - (intOf i).toNat)
      case atStart => exact ⟨0, by omega, rfl, S0, C⟩
      case round =>
        clear S0 C e1 e2
        obtain ⟨k, hk, rfl, hrw, C⟩ := hrel
        have e1 := C.cell c1 hpgc
        have e2 := C.cell c2 hpgc
        by_cases hkn : k < n
        · obtain ⟨gf, rfl, g1, g2, f0, f1, f2⟩ := HF.out k hkn
          have d0 := C.cell f0 g2
          have d1 := C.cell f1 g2
          have d2 := C.cell f2 g2
          have hlt := HA.out k (by omega)
          obtain ⟨bx, bl, bc, hBs⟩ := H.redo_slice all k _ (by have := HN.out; omega) hlt
          obtain ⟨ax, al, ac, hAs⟩ := H.fly_slice k (by have := HN.out; omega)
          obtain ⟨A, hA⟩ : ∃ A, (m.W.getD k dW).1 = A := ⟨_, rfl⟩
          rw [hBs] at d1
          rw [hAs] at d2
          rw [hA] at d0 hlt
          have hAl : (A : Int) < m.V.length := by omega
          have hknI : (k : Int) < n := by omega
          have hgl := lt_of_block hrw
          have hgfl := World.block_lt_of_cell? _ _ d0
          clear f0 f1 f2
          obtain ⟨W1, hW1⟩ : ∃ W1, W1 = wr.alloc (.cells #[.int .i64 A, .slice bx bl bc, .slice ax al ac] 90) := ⟨_, rfl⟩
          have C1 : Chg (fun k => k = gc) w W1 := by rw [hW1]; exact C.alloc _
          have R1 : W1.heap[gc]? = some (.cells ((redo m.V m.W (of keep) k).map (·.1)).toArray 31 (0, 0)) := by rw [hW1, Below.heap_alloc _ _ _ hgl]; exact hrw
          have b1 := C1.cell c1 hpgc
          have N1 : W1.heap[wr.heap.size]? = some (.cells #[.int .i64 A, .slice bx bl bc, .slice ax al ac] 90 (0, 0)) := by rw [hW1]; exact heap_alloc_new _ _
          obtain ⟨b2, _⟩ := row_cell (xs := [_, _, _]) N1 0 _ rfl
          obtain ⟨b3, _⟩ := row_cell (xs := [_, _, _]) N1 2 _ rfl
          obtain ⟨u, hu⟩ : ∃ u, ((redo m.V m.W (of keep) k).map (·.1))[A]? = some u := by
            rw [List.getElem?_eq_getElem (by simp [redo_length]; omega)]; exact ⟨_, rfl⟩
          obtain ⟨x1, x2⟩ := row_cell R1 A u hu
          by_cases hkl : k < keep.length
          · obtain ⟨x, rfl, hx, q0⟩ := HK.out k hkl
            have q1 := C1.cell q0 (by simpa [Addr.add] using fun e => hJ _ (by split at e <;> simpa using hx) (by split at e <;> simpa using e))
            have hklI : (k : Int) < keep.length := by omega
            obtain ⟨kb, hkb⟩ : ∃ b, keep.getD k false = b := ⟨_, rfl⟩
            rw [hkb] at q1
            clear q0
            have HW : Hid (W1 = wr.alloc (.cells #[.int .i64 A, .slice bx bl bc, .slice ax al ac] 90)) := hW1
            rcases kb with _ | _
            · have HB : Hid (W1.heap[gc]? = some (.cells ((redo m.V m.W (of keep) (k + 1)).map (·.1)).toArray 31 (0, 0))) := by
                rw [redo_skip _ _ _ _ hkb]; exact R1
              rw [hW1] at q1 b1 b2 b3 x1 x2
              clear R1 N1 hu hW1 hrw
              go_wp2
              go_roundw
              case rel => exact ⟨k + 1, by omega, by go_num, HW.out ▸ HB.out, HW.out ▸ C1⟩
              case measure => simp [intOf]; omega
            · have HB : Hid (((wr.setCell ⟨gc, A, none⟩ (.slice ax al ac)).alloc (.cells #[.int .i64 A, .slice bx bl bc, .slice ax al ac] 90)).heap[gc]? = some (.cells ((redo m.V m.W (of keep) (k + 1)).map (·.1)).toArray 31 (0, 0))) := by
                have := row_set hrw A (.slice ax al ac)
                rw [redo_map_set _ _ _ _ hkb, hA, hAs, Below.heap_alloc _ _ _ (by simpa using hgl)]
                exact this
              have HC : Hid (Chg (fun k => k = gc) w ((wr.setCell ⟨gc, A, none⟩ (.slice ax al ac)).alloc (.cells #[.int .i64 A, .slice bx bl bc, .slice ax al ac] 90))) := (C.setCell _ _ (.inl rfl)).alloc _
              rw [hW1] at q1 b1 b2 b3 x1 x2
              clear R1 N1 hu hW1 hrw
              go_wp2_with fail
              go_region
              all_goals go_wp2
              all_goals go_roundw
              case rel => exact ⟨k + 1, by omega, by go_num, HB.out, HC.out.drew⟩
              case measure => simp [intOf]; omega
          · have hklI : (keep.length : Int) ≤ k := by omega
            have hkb : of keep k = false := by unfold of; rw [List.getD_eq_getElem?_getD, List.getElem?_eq_none (by omega)]; rfl
            have HW : Hid (W1 = wr.alloc (.cells #[.int .i64 A, .slice bx bl bc, .slice ax al ac] 90)) := hW1
            have HB : Hid (W1.heap[gc]? = some (.cells ((redo m.V m.W (of keep) (k + 1)).map (·.1)).toArray 31 (0, 0))) := by
              rw [redo_skip _ _ _ _ hkb]; exact R1
            rw [hW1] at b1 b2 b3 x1 x2
            clear R1 N1 hu hW1 hrw
            go_wp2
            go_roundw
            case rel => exact ⟨k + 1, by omega, by go_num, HW.out ▸ HB.out, HW.out ▸ C1⟩
            case measure => simp [intOf]; omega
        · obtain rfl : k = n := by omega
          have hkn' : (k : Int) ≤ k := by omega
          have fz : wr.frozen? ⟨p, 2, none⟩ = false := (World.frozen?_of_block (C.block p (H.lt p H.fp) hpgc)).trans (H.free 2)
          go_wp2
          go_end0
          exact ⟨rfl, sto_settled H C (by rw [← HN.out]; exact hrw), (C.mono fun k hk => .inl (.inl hk)).setCell _ _ (.inl (.inr rfl))⟩
    · obtain ⟨gf, rfl, g1, g2, f0, f1, f2⟩ := HF.out k (by omega)
      have d0 := C.cell f0 g2
      have d1 := C.cell f1 g2
      have hlt := HA.out k (by omega)
      have hb := redo_back m.V m.W k hlt
      obtain ⟨A, hA⟩ : ∃ A, (m.W.getD k dW).1 = A := ⟨_, rfl⟩
      obtain ⟨B, hB⟩ : ∃ B, ((redo m.V m.W all k).getD (m.W.getD k dW).1 dC).1 = B := ⟨_, rfl⟩
      obtain ⟨bx, bl, bc, hBs⟩ := H.redo_slice all k _ (by have := HN.out; omega) hlt
      rw [hB] at hBs
      subst hBs
      rw [hB] at hb d1
      rw [hA] at hb d0 hlt
      have hAl : (A : Int) < m.V.length := by omega
      have hkn : (k : Int) < n := by omega
      have hk0 : ((k + 1 : Nat) : Int) - 1 = k := by omega
      obtain ⟨u, hu⟩ : ∃ u, ((redo m.V m.W all (k + 1)).map (·.1))[A]? = some u := by
        rw [List.getElem?_eq_getElem (by simp [redo_length]; omega)]; exact ⟨_, rfl⟩
      obtain ⟨x1, x2⟩ := row_cell hrw A u hu
      have HB : Hid ((wr.setCell ⟨gc, A, none⟩ (.slice bx bl bc)).heap[gc]? = some (.cells ((redo m.V m.W all k).map (·.1)).toArray 31 (0, 0))) := by
        have := row_set hrw A (.slice bx bl bc)
        rw [hb] at this
        exact this
      have HC : Hid (Chg (fun k => k = gc) w (wr.setCell ⟨gc, A, none⟩ (.slice bx bl bc))) := C.setCell _ _ (.inl rfl)
      rw [hk0]
      clear hb hA hB hu f0 f1 f2 hrw C
      go_wp2_with fail
      go_region
      all_goals go_wp2
      all_goals go_roundw
      case rel => exact ⟨k, by omega, by go_num, HB.out, HC.out.drew⟩
      case measure => simp [intOf]

end Go.Proofs.Yteehphmedmplkaa.st
