/- Contracts of Cut, the program's and the document's. -/
import Derived.Test.YtleimdlpcgpjfaaArgs
namespace Go.Proofs.Ytleimdlpcgpjfaa.st
open Go.ChangeShapes Go.WideShapes Go.ChangeAt Go.RowKit Go.Proofs.Ytleimdlpcgpjfaa.hp Go.Proofs.Ytleimdlpcgpjfaa.dg
set_option linter.unusedVariables false

/-- The piece of place i. -/
def piece (zs : List Int) (s i : Nat) : List Int := fill ((zs.drop (i * s)).take s) s

theorem piece_length (zs : List Int) (s i : Nat) : (piece zs s i).length = s := by
  unfold piece
  exact fill_length _ _ (by simp; omega)

def sl (g s : Nat) : Value := .slice (some ⟨g, 0, none⟩) s s

/-- A slice of n pieces, in the blocks of N. -/
def Pcs (w : World) (N : Nat → Prop) (v : Value) (zs : List Int) (s n : Nat) : Prop := ∃ gf : Nat → Nat, Lies N w v ((List.range n).map fun i => sl (gf i) s) ∧
  ∀ i, i < n → N (gf i) ∧ w.heap[gf i]? = some (.cells ((piece zs s i).map (Value.int .u8)).toArray 5 (0, 0))

theorem Pcs.chg {F N : Nat → Prop} {w w' : World} {v : Value} {zs : List Int} {s n : Nat} (h : Pcs w N v zs s n) (c : Chg F w w') (hn : ∀ k, N k → ¬ F k) : Pcs w' N v zs s n := by
  obtain ⟨gf, h1, h2⟩ := h
  exact ⟨gf, h1.chg c hn, fun i hi => ⟨(h2 i hi).1, c.heap (h2 i hi).2 (hn _ (h2 i hi).1)⟩⟩

theorem Pcs.at {N : Nat → Prop} {w : World} {a : Option Addr} {l c : Nat} {zs : List Int} {s n : Nat} (h : Pcs w N (.slice a l c) zs s n) : l = n ∧ ∀ i, i < n → ∃ x g, a = some x ∧ w.cell? (x.add i) = some (sl g s) ∧ N g ∧ w.heap[g]? = some (.cells ((piece zs s i).map (Value.int .u8)).toArray 5 (0, 0)) := by
  obtain ⟨gf, h1, h2⟩ := h
  obtain ⟨a', c', he, hc⟩ := h1.slice
  simp only [List.length_map, List.length_range] at he
  cases he
  refine ⟨rfl, fun i hi => ?_⟩
  obtain ⟨x, hx, _, h3⟩ := hc i (sl (gf i) s) (by rw [List.getElem?_map, List.getElem?_range hi]; rfl)
  exact ⟨x, gf i, hx, h3, (h2 i hi).1, (h2 i hi).2⟩

/-- The row of pieces behind j rounds. -/
def prow (gf : Nat → Nat) (s n j : Nat) : List Value := (List.range n).map fun i => if i < j then sl (gf i) s else .slice none 0 0

def upd (gf : Nat → Nat) (j g : Nat) : Nat → Nat := fun i => if i = j then g else gf i

theorem prow_zero (gf : Nat → Nat) (s n : Nat) : prow gf s n 0 = List.replicate n (.slice none 0 0) := by
  unfold prow
  apply List.ext_getElem?
  intro i
  rw [List.getElem?_map, List.getElem?_replicate]
  by_cases hi : i < n
  · rw [List.getElem?_range hi]
    simp [hi]
  · rw [List.getElem?_eq_none (by simp; omega)]
    simp [hi]

theorem prow_all (gf : Nat → Nat) (s n : Nat) : prow gf s n n = (List.range n).map fun i => sl (gf i) s := by
  unfold prow
  apply List.map_congr_left
  intro i hi
  rw [if_pos (List.mem_range.1 hi)]

theorem prow_set (gf : Nat → Nat) (s n j g : Nat) (hj : j < n) : (prow gf s n j).set j (sl g s) = prow (upd gf j g) s n (j + 1) := by
  unfold prow
  apply List.ext_getElem?
  intro i
  rw [List.getElem?_set, List.getElem?_map, List.getElem?_map]
  by_cases hi : i < n
  · rw [List.getElem?_range hi]
    by_cases e : j = i
    · subst e
      simp [hj, upd]
    · rw [if_neg e]
      simp only [Option.map_some, Option.some.injEq]
      by_cases h2 : i < j
      · rw [if_pos h2, if_pos (by omega)]
        unfold upd
        rw [if_neg (by omega)]
      · rw [if_neg h2, if_neg (by omega)]
  · rw [List.getElem?_eq_none (l := List.range n) (by simp; omega)]
    simp
    omega

theorem prow_length (gf : Nat → Nat) (s n j : Nat) : (prow gf s n j).length = n := by simp [prow]

/-- Within Cut's loop. -/
def CutAt (w : World) (g0 : Nat) (zs : List Int) (s n j : Nat) (wr : World) : Prop := ∃ gf : Nat → Nat, wr.heap[g0]? = some (.cells (prow gf s n j).toArray 26 (0, 0)) ∧
  (∀ i, i < j → w.heap.size ≤ gf i ∧ gf i ≠ g0 ∧ wr.heap[gf i]? = some (.cells ((piece zs s i).map (Value.int .u8)).toArray 5 (0, 0))) ∧ Chg no w wr

theorem CutAt.step {w wr w1 : World} {g0 : Nat} {zs : List Int} {s n j : Nat} (h : CutAt w g0 zs s n j wr) (hg0 : w.heap.size ≤ g0) (hj : j < n) (hg : w1.heap[wr.heap.size]? = some (.cells ((piece zs s j).map (Value.int .u8)).toArray 5 (0, 0))) (k : Chg no wr w1) :
    CutAt w g0 zs s n (j + 1) (w1.setCell ⟨g0, j, none⟩ (sl wr.heap.size s)) := by
  obtain ⟨gf, h1, h2, h3⟩ := h
  have hl := lt_of_block h1
  refine ⟨upd gf j wr.heap.size, ?_, fun i hi => ?_, (h3.then k).setCell _ _ (.inr hg0)⟩
  · rw [row_set (k.heap h1 id) j (sl wr.heap.size s), prow_set gf s n j _ hj]
  · unfold upd
    by_cases e : i = j
    · subst e
      rw [if_pos rfl]
      exact ⟨h3.size, by omega, by rw [Below.heap_setCell _ _ _ _ (by simp; omega)]; exact hg⟩
    · rw [if_neg e]
      obtain ⟨q1, q2, q3⟩ := h2 i (by omega)
      exact ⟨q1, q2, by rw [Below.heap_setCell _ _ _ _ (by simpa using q2)]; exact k.heap q3 id⟩

theorem lies_sub {J : Nat → Prop} {w : World} {a : Option Addr} {l c lo hi : Nat} {xs : List Value} (h : Lies J w (.slice a l c) xs) (h1 : lo ≤ hi) (h2 : hi ≤ xs.length) : Lies J w (.slice (a.map (fun x => x.add lo)) (hi - lo) (c - lo)) ((xs.drop lo).take (hi - lo)) :=
  lies_front (lies_back h (by omega)) (by simp; omega)

theorem sub_piece (zs : List Int) (lo s : Nat) (hl : lo ≤ zs.length) : (zs.drop lo).take (min (lo + s) zs.length - lo) = (zs.drop lo).take s := by
  by_cases h : lo + s ≤ zs.length
  · rw [Nat.min_eq_left h, Nat.add_sub_cancel_left]
  · rw [Nat.min_eq_right (by omega), List.take_of_length_le (by simp), List.take_of_length_le (by simp; omega)]

set_option maxHeartbeats 4000000 in
theorem cut_in {J : Nat → Prop} (w : World) (a : Option Addr) (c : Nat) (zs : List Int) (s : Nat) (hv : Lies J w (.slice a zs.length c) (zs.map (Value.int .u8))) (hc : zs.length ≤ c) (hl : zs.length ≤ 100000) (h1 : 1 ≤ s) (h2 : s ≤ 100000) (h0 : 1 ≤ zs.length) :
    Calls Try.prog 24 #[.slice a zs.length c, .int .i64 s] w fun e w' => ∃ v, e = .returned v ∧ Pcs w' (fun k => w.heap.size ≤ k ∧ k < w'.heap.size) v zs s (ncell zs.length s) ∧ Chg no w w' := by
  obtain ⟨i0, hi0, hz0, hz1, hz2⟩ := info_parts info26
  have HC := cells_in w zs.length s h0 h1 (by omega)
  have hN := ncell_le zs.length s
  have HN : Hid (∀ j, j < ncell zs.length s → j * s < zs.length) := fun j hj => (ncell_lt _ _ _ hj).1
  obtain ⟨n, hn⟩ : ∃ n, ncell zs.length s = n := ⟨_, rfl⟩
  rw [hn] at HC hN HN ⊢
  have i1 : (1 : Int) ≤ s := by omega
  have i2 : (s : Int) ≤ 100000 := by omega
  have i3 : (n : Int) ≤ 100000 := by omega
  have HV : Hid (Lies J w (.slice a zs.length c) (zs.map (Value.int .u8))) := hv
  obtain ⟨L, hL⟩ : ∃ L, zs.length = L := ⟨_, rfl⟩
  have HL : Hid (zs.length = L) := hL
  rw [hL] at HC hN HN hc hl h0 ⊢
  clear hv hn hL
  have i4 : (L : Int) ≤ 100000 := by omega
  have i5 : (L : Int) ≤ c := by omega
  go_enter Try.func24, Try.ntmps24
  go_wp2_with fail
  refine HC.mono ?_
  rintro e w1 ⟨rfl, rfl⟩
  clear HC
  go_wp2_with (at_make; refine wpList_make_full _ rfl _ _ 49 rfl w1.heap.size 26 i0 (.slice none 0 0) 1 Try.underlying49 hi0 hz0 hz1 .i64 .i64 n n n rfl rfl rfl rfl ?c1 ?c2 ?c3 ?_)
  case c1 => rw [hz2]; omega
  case c2 => unfold maxLen; omega
  case c3 => omega
  intro w2 hown hg
  have B0 : Hid (CutAt w1 w1.heap.size zs s n 0 w2) := by
    have hr := (row_whole hown).1
    refine ⟨fun _ => 0, ?_, fun i hi => by omega, (Chg.refl no w1).grown hg (by simp)⟩
    rw [prow_zero, hr, toList_madeCells_one]
  clear hown hg
  go_wp2_with fail
  go_loopw [17] (fun i wr => ∃ j : Nat, j ≤ n ∧ i = .int .i64 (j : Int) ∧ CutAt w1 w1.heap.size zs s n j wr) (fun i _ => n - (intOf i).toNat)
  case atStart => exact ⟨0, by omega, rfl, B0.out⟩
  case round =>
    clear B0
    obtain ⟨j, hj, rfl, hB⟩ := hrel
    by_cases hjn : j < n
    · have hji : (j : Int) < n := by omega
      have hjs := HN.out j hjn
      have m0 : (0 : Int) ≤ (j : Int) * (s : Int) := Int.mul_nonneg (by omega) (by omega)
      have m1 : (j : Int) * (s : Int) < L := by
        have : ((j * s : Nat) : Int) < L := by omega
        simpa using this
      obtain ⟨H, hH, hH1, hH2, hH3⟩ : ∃ H : Nat, (if (L : Int) < (j : Int) * (s : Int) + (s : Int) then (L : Int) else (j : Int) * (s : Int) + (s : Int)) = H ∧ H ≤ L ∧ j * s ≤ H ∧ H = min (j * s + s) L := by
        have e : (j : Int) * (s : Int) = ((j * s : Nat) : Int) := by simp
        rw [e]
        by_cases h : (L : Int) < ((j * s : Nat) : Int) + (s : Int)
        · exact ⟨L, by rw [if_pos h], by omega, by omega, by omega⟩
        · exact ⟨j * s + s, by rw [if_neg h]; omega, by omega, by omega, by omega⟩
      have hHi : (H : Int) ≤ L := by omega
      have hHc : (H : Int) ≤ c := by omega
      have hHj : (j : Int) * (s : Int) ≤ H := by
        have : ((j * s : Nat) : Int) ≤ H := by omega
        simpa using this
      have HF : Calls Try.prog 31 #[.slice (a.map (fun x => x.add (j * s))) (H - j * s) (c - j * s), .int .i64 s] wr fun e w' => e = .returned (.slice (some ⟨wr.heap.size, 0, none⟩) s s) ∧
          w'.heap[wr.heap.size]? = some (.cells ((piece zs s j).map (Value.int .u8)).toArray 5 (0, 0)) ∧ Chg no wr w' := by
        obtain ⟨gf, b1, b2, b3⟩ := hB
        have q := lies_sub (lo := j * s) (hi := H) (HV.out.chg b3 (fun _ _ h => h)) hH2 (by simp; rw [HL.out]; omega)
        rw [← List.map_drop, ← List.map_take, hH3] at q
        have q2 := sub_piece zs (j * s) s (by rw [HL.out]; omega)
        rw [HL.out] at q2
        rw [q2, ← hH3] at q
        exact filled_any wr _ _ s q (by simp; omega) (by omega)
      have HS : Hid (∀ w3, w3.heap[wr.heap.size]? = some (.cells ((piece zs s j).map (Value.int .u8)).toArray 5 (0, 0)) → Chg no wr w3 → (∃ u, w3.cell? ⟨w1.heap.size, j, none⟩ = some u) ∧ w3.frozen? ⟨w1.heap.size, j, none⟩ = false ∧ CutAt w1 w1.heap.size zs s n (j + 1) (w3.setCell ⟨w1.heap.size, j, none⟩ (.slice (some ⟨wr.heap.size, 0, none⟩) s s))) := by
        intro w3 g3 k3
        have st := hB.step (Nat.le_refl _) hjn g3 k3
        obtain ⟨gf, b1, b2, b3⟩ := hB
        have hlen := prow_length gf s n j
        obtain ⟨u, hu⟩ : ∃ u, (prow gf s n j)[j]? = some u := ⟨_, List.getElem?_eq_getElem (by omega)⟩
        obtain ⟨r1, r2⟩ := row_cell (k3.heap b1 id) j u hu
        exact ⟨⟨u, r1⟩, r2, st⟩
      clear hB hH3
      go_wp2_with fail
      refine HF.mono ?_
      rintro e w3 ⟨rfl, g3, k3⟩
      obtain ⟨⟨u, r1⟩, r2, r3⟩ := HS.out _ g3 k3
      clear HF HS g3 k3
      go_wp2
      go_roundw
      case rel => exact ⟨j + 1, by omega, by go_num, r3⟩
      case measure => simp [intOf]; omega
    · obtain rfl : j = n := by omega
      have hji : (j : Int) ≤ (j : Int) := by omega
      go_wp2
      go_ret
      obtain ⟨gf, b1, b2, b3⟩ := hB
      rw [prow_all] at b1
      refine ⟨_, rfl, ⟨gf, ?_, fun i hi => ?_⟩, b3⟩
      · have q := (lies_block b1 j).mono (K := fun k => w1.heap.size ≤ k ∧ k < wr.heap.size) (fun k hk => by subst hk; exact ⟨Nat.le_refl _, lt_of_block b1⟩)
        simpa using q
      · obtain ⟨q1, q2, q3⟩ := b2 i hi
        exact ⟨⟨q1, lt_of_block q3⟩, q3⟩

theorem pcs_nil (w w' : World) (N : Nat → Prop) (v : Value) (zs : List Int) (s : Nat) (hv : v = .slice none 0 0 ∨ ∃ x c, v = .slice (some x) 0 c) : Pcs w' N v zs s 0 := by
  refine ⟨fun _ => 0, ?_, fun i hi => by omega⟩
  rcases hv with rfl | ⟨x, c, rfl⟩
  · exact .inl ⟨rfl, rfl⟩
  · exact .inr ⟨x, c, rfl, fun h => (h rfl).elim, fun i u hu => by simp at hu⟩

theorem cut_out (w : World) (a : Option Addr) (c : Nat) (zs : List Int) (s : Int) (hh : zs.length = 0 ∨ s < 1) (hs : s ≤ 100000) :
    Calls Try.prog 24 #[.slice a zs.length c, .int .i64 s] w fun e w' => ∃ v, e = .returned v ∧ Pcs w' (fun k => w.heap.size ≤ k ∧ k < w'.heap.size) v zs s.toNat 0 ∧ Chg no w w' := by
  obtain ⟨i0, hi0, hz0, hz1, hz2⟩ := info_parts info26
  have HC := cells_out w zs.length s (by omega)
  obtain ⟨L, hL⟩ : ∃ L, zs.length = L := ⟨_, rfl⟩
  rw [hL] at HC ⊢
  clear hh hL
  go_enter Try.func24, Try.ntmps24
  go_wp2_with fail
  refine HC.mono ?_
  rintro e w1 ⟨rfl, rfl⟩
  clear HC
  go_wp2_with (at_make; refine wpList_make_full _ rfl _ _ 49 rfl w1.heap.size 26 i0 (.slice none 0 0) 1 Try.underlying49 hi0 hz0 hz1 .i64 .i64 0 0 0 rfl rfl rfl rfl ?c1 ?c2 ?c3 ?_)
  case c1 => rw [hz2]; omega
  case c2 => unfold maxLen; omega
  case c3 => omega
  intro w2 hown hg
  have kk : Chg no w1 w2 := (Chg.refl no w1).grown hg (by simp)
  clear hown hg
  go_wp2_with fail
  go_loopw [17] (fun i wr => i = .int .i64 0 ∧ wr = w2) (fun i _ => 0)
  case atStart => exact ⟨rfl, rfl⟩
  case round =>
    obtain ⟨rfl, rfl⟩ := hrel
    go_wp2
    go_ret
    exact ⟨_, rfl, pcs_nil wr wr _ _ zs _ (.inr ⟨_, _, rfl⟩), kk⟩

theorem ncell_zero (l : Nat) (s : Int) (h : l = 0 ∨ s < 1) : ncell l s.toNat = 0 := by
  rcases h with rfl | h
  · have := ncell_le 0 s.toNat
    omega
  · have : s.toNat = 0 := by omega
    rw [this]
    rfl

theorem cut_any {J : Nat → Prop} (w : World) (a : Option Addr) (c : Nat) (zs : List Int) (s : Int) (hv : Lies J w (.slice a zs.length c) (zs.map (Value.int .u8))) (hc : zs.length ≤ c) (hl : zs.length ≤ 100000) (hs : s ≤ 100000) :
    Calls Try.prog 24 #[.slice a zs.length c, .int .i64 s] w fun e w' => ∃ v, e = .returned v ∧ Pcs w' (fun k => w.heap.size ≤ k ∧ k < w'.heap.size) v zs s.toNat (ncell zs.length s.toNat) ∧ Chg no w w' := by
  by_cases hh : zs.length = 0 ∨ s < 1
  · rw [ncell_zero _ _ hh]
    exact cut_out w a c zs s hh hs
  · obtain ⟨k, rfl⟩ := Int.eq_ofNat_of_zero_le (show 0 ≤ s by omega)
    exact cut_in w a c zs k hv hc hl (by omega) (by omega) (by omega)

/-- Within the document's Cut: j pieces are there. -/
def RefAt (w : World) (zs : List Int) (s j : Nat) (v : Value) (wr : World) : Prop := ∃ gf : Nat → Nat, wr.ownsRow 0 26 1 v j ((List.range j).map fun i => sl (gf i) s) ∧ (∀ k, v.ownBlock = some k → w.heap.size ≤ k) ∧
  (∀ i, i < j → w.heap.size ≤ gf i ∧ v.ownBlock ≠ some (gf i) ∧ wr.heap[gf i]? = some (.cells ((piece zs s i).map (Value.int .u8)).toArray 5 (0, 0))) ∧ Chg no w wr

theorem RefAt.step {w wr w1 w2 w3 : World} {zs : List Int} {s j : Nat} {v v' : Value} (h : RefAt w zs s j v wr) (hg : w1.heap[wr.heap.size]? = some (.cells ((piece zs s j).map (Value.int .u8)).toArray 5 (0, 0))) (k : Chg no wr w1) (k2 : Chg no w1 w2)
    (gr : ∀ gf : Nat → Nat, wr.ownsRow 0 26 1 v j ((List.range j).map fun i => sl (gf i) s) → Grew 26 w2 w3 v v' j ((List.range j).map fun i => sl (gf i) s) [sl wr.heap.size s]) : RefAt w zs s (j + 1) v' w3 := by
  obtain ⟨gf, h1, h2, h3, h4⟩ := h
  have gr := gr gf h1
  have kk := k.then k2
  have hC : Chg (fun b => v.ownBlock = some b) w2 w3 := (Chg.refl _ w2).grown gr.grown (fun b hb => .inl hb)
  have z := h4.size
  have z1 := kk.size
  have hvl : ∀ b, v.ownBlock = some b → b < wr.heap.size := fun b hb => (h1.lt b hb).2
  refine ⟨upd gf j wr.heap.size, ?_, ?_, ?_, ?_⟩
  · have e : (List.range (j + 1)).map (fun i => sl (upd gf j wr.heap.size i) s) = ((List.range j).map fun i => sl (gf i) s) ++ [sl wr.heap.size s] := by
      rw [List.range_succ, List.map_append]
      congr 1
      · apply List.map_congr_left
        intro i hi
        have := List.mem_range.1 hi
        unfold upd
        rw [if_neg (by omega)]
      · simp [upd]
    rw [e]
    exact gr.own
  · intro b hb
    rcases gr.place b hb with e | e
    · exact h2 b e
    · omega
  · intro i hi
    unfold upd
    by_cases e : i = j
    · subst e
      rw [if_pos rfl]
      refine ⟨z, ?_, hC.heap (k2.heap hg id) (fun e => by have := hvl _ e; omega)⟩
      intro e
      have hlt := lt_of_block hg
      have z2 := k2.size
      rcases gr.place _ e with q | q
      · have := hvl _ q
        omega
      · omega
    · rw [if_neg e]
      obtain ⟨q1, q2, q3⟩ := h3 i (by omega)
      refine ⟨q1, ?_, hC.heap (kk.heap q3 id) q2⟩
      intro e2
      rcases gr.place _ e2 with q | q
      · exact q2 q
      · have := lt_of_block q3
        omega
  · exact (h4.then kk).trans hC (fun b hb => .inr (h2 b hb))

end Go.Proofs.Ytleimdlpcgpjfaa.st
