/- The contract of slices.Insert of one block, where there is no room; in one for all. -/
import Derived.Test.YtedhlidmmmlemaaIns
namespace Go.Proofs.Ytedhlidmmmlemaa.st
open Go.ChangeShapes Go.WideShapes Go.ChangeAt Go.RowKit Go.Proofs.Ytedhlidmmmlemaa.hp
set_option linter.unusedVariables false
set_option linter.unusedSimpArgs false

set_option maxRecDepth 100000 in
set_option maxHeartbeats 4000000 in
/-- There is no room: a new row. -/
theorem insert_grow (w : World) (g c n i : Nat) (cur : List Value) (g0 : Nat) (id : Int) (ab : Option Addr) (l cb : Nat) (hg : w.heap[g]? = some (.cells cur.toArray 36 (0, 0))) (hc : cur.length = c * 2) (hcm : c ≤ maxLen) (hi : i < n) (hnc : n ≤ c) (hr : c < n + 1) (hn : n ≤ 1000) (hX : ∀ u ∈ cur.take (n * 2), u.oneCell' = true)
    (hb : w.heap[g0]? = some (.cells #[.int .i64 id, .slice ab l cb] 36 (0, 0))) :
    Calls Try.prog 34 #[.slice (some ⟨g, 0, none⟩) n c, .int .i64 i, .slice (some ⟨g0, 0, none⟩) 1 1] w fun e w' => ∃ G, e = .returned (.slice (some ⟨w.heap.size, 0, none⟩) (n + 1) G) ∧ w'.ownsRow 0 36 2 (.slice (some ⟨w.heap.size, 0, none⟩) (n + 1) G) (n + 1) (insX (cur.take (n * 2)) i [.int .i64 id, .slice ab l cb]) ∧ Chg no w w' := by
  obtain ⟨i0, hi0, hz0, hz1, hz2⟩ := info_parts' info36
  have hsz : (Try.prog.info? 36).map (·.size) = some 2 := info36'
  have hgw : g < w.heap.size := lt_of_block hg
  have hg0w : g0 < w.heap.size := lt_of_block hb
  obtain ⟨NB, hNB⟩ : ∃ NB, w.heap.size = NB := ⟨_, rfl⟩
  obtain ⟨AX, hAX⟩ : ∃ AX, (cur.take (n * 2)).take (i * 2) = AX := ⟨_, rfl⟩
  have hAl : AX.length = i * 2 := by rw [← hAX, List.length_take, List.length_take]; omega
  have hold : (Builtin.firstCells i0.size i (.slice (some ⟨g, 0, none⟩) i c)).run Try.prog w.drew = .ok AX.toArray w.drew := by
    rw [hz1]
    refine run_firstCells_some w.drew 2 i ⟨g, 0, none⟩ i c AX hAl (fun j v hj => ?_)
    rw [Addr.add_lit, Nat.zero_add]
    refine (row_cell (w := w.drew) hg j v ?_).1
    have hjl := (List.getElem?_eq_some_iff.1 hj).1
    rw [← hAX, List.getElem?_take_of_lt (by omega), List.getElem?_take_of_lt (by omega)] at hj
    exact hj
  have hr0 := fun ty => Lib.run_append_grow_zeros (P := Try.prog) w 22 3 ty 36 i0 bz .i64 .i64 Try.underlying22 Try.underlying3 hi0 hz0 (some ⟨g, 0, none⟩) i c AX hold (n + 1 - i) (by omega) (by omega) (by omega) (by omega) (by rw [hz2]; omega) (by rw [hz2, show i + (n + 1 - i) = n + 1 by omega]; exact growslice_fits hr (by omega))
  have hik : i + (n + 1 - i) = n + 1 := by omega
  have hki : ((n + 1 - i : Nat) : Int) = (n : Int) + 1 - (i : Int) := by omega
  rw [hik, hki] at hr0
  obtain ⟨G, hG⟩ : ∃ G, grownCap w (n + 1) c 36 = G := ⟨_, rfl⟩
  have hG1 : n + 1 ≤ G := by rw [← hG]; exact grownCap_ge w _ _ _
  have hG2 : G ≤ maxLen := by rw [← hG]; exact grownCap_le_maxLen w _ _ _ (by unfold maxLen; omega)
  rw [hG] at hr0
  obtain ⟨ROW, hROW⟩ : ∃ ROW : List Value, AX.toArray ++ Builtin.zeroCells bz.cells (n + 1 - i) ++ Builtin.zeroCells bz.cells (G - (n + 1)) = ROW.toArray := ⟨_, (Array.toArray_toList (xs := _)).symm⟩
  rw [hROW] at hr0
  have hRl : ROW.length = G * 2 := by
    have := congrArg Array.size hROW
    simp [Builtin.zeroCells, Value.cells, hAl] at this
    omega
  have hRt : ROW.take (i * 2) = AX := by
    have := congrArg Array.toList hROW
    simp only [Array.toList_append] at this
    rw [← this, List.append_assoc, ← hAl]
    exact List.take_left
  obtain ⟨W1, hW1⟩ : ∃ W1, w.drew.alloc (.cells ROW.toArray 36) = W1 := ⟨_, rfl⟩
  rw [hW1, hNB] at hr0
  have G1 : Hid (W1.heap[NB]? = some (.cells ROW.toArray 36 (0, 0))) := by
    show W1.heap[NB]? = _
    rw [← hW1, ← hNB]
    exact heap_alloc_new w.drew _
  have K1 : Hid (Chg no w W1) := by
    show Chg no w W1
    rw [← hW1]
    exact ((Chg.refl no w).drew).alloc _
  have hrz : ∀ ty, (Builtin.append_ #[22, 3] ty #[.slice (some ⟨g, 0, none⟩) i c, .int .i64 ((n : Int) + 1 - (i : Int))]).run Try.prog w = .ok (.slice (some ⟨NB, 0, none⟩) (n + 1) G) W1 := hr0
  obtain ⟨CB, hCB⟩ : ∃ CB, (cur.take (n * 2)).drop (i * 2) = CB := ⟨_, rfl⟩
  have hl1 : CB.length = (n - i) * 2 := by rw [← hCB, List.length_drop, List.length_take]; omega
  have hCBg : ∀ j u, CB[j]? = some u → cur[i * 2 + j]? = some u := by
    intro j u hu
    have hj := (List.getElem?_eq_some_iff.1 hu).1
    rw [hl1] at hj
    rw [← hCB, List.getElem?_drop, List.getElem?_take_of_lt (by omega)] at hu
    exact hu
  have hCB1 : ∀ u ∈ CB, u.oneCell' = true := fun u hu => hX u (by rw [← hCB] at hu; exact List.mem_of_mem_drop hu)
  obtain ⟨NW, hNW⟩ : ∃ NW : List Value, [.int .i64 id, .slice ab l cb] = NW := ⟨_, rfl⟩
  have hNl : NW.length = 2 := by rw [← hNW]; rfl
  have hN1 : ∀ u ∈ NW, u.oneCell' = true := by rw [← hNW]; exact one_b _ _ _ _
  obtain ⟨R, hR⟩ := splice_grow (cur := ROW) (B := CB) (new := NW) (a := i * 2) hNl (by omega)
  have HL1 : Hid (NW.length = Nat.min 1 (n + 1 - i) * 2) := by
    show _ = _
    simp only [Nat.min_def]
    split <;> omega
  have HL2 : Hid (i * 2 + NW.length ≤ ROW.length) := by
    show _ ≤ _
    omega
  have HL3 : Hid (CB.length = Nat.min (n - i) (n + 1 - (i + 1)) * 2) := by
    show _ = _
    simp only [Nat.min_def]
    split <;> omega
  have HL4 : Hid (i * 2 + 2 + CB.length ≤ (splice ROW (i * 2) NW).length) := by
    show _ ≤ _
    rw [length_splice _ _ _ HL2.out]
    omega
  have HF : Hid (∀ w' : World, w'.heap[NB]? = some (.cells (splice (splice ROW (i * 2) NW) (i * 2 + 2) CB).toArray 36 (0, 0)) → w'.ownsRow 0 36 2 (.slice (some ⟨NB, 0, none⟩) (n + 1) G) (n + 1) (insX (cur.take (n * 2)) i NW)) := by
    intro w' hg'
    refine owns_shut hg' hG1 hG2 ?_ ?_
    · rw [length_splice _ _ _ HL4.out, length_splice _ _ _ HL2.out, hRl]
    · rw [hR]
      exact ins_front (by rw [hRt, hAX]) hCB.symm hNl (by rw [List.length_take]; omega) (by omega)
  have HCg : Hid (∀ W : World, Chg (fun k => k = NB) W1 W → ∀ j u, CB[j]? = some u → W.cell? ((⟨g, i * 2, none⟩ : Addr).add j) = some u) := by
    intro W hW j u hu
    rw [Addr.add_lit]
    exact (row_cell (hW.heap (K1.out.heap hg (fun h => h)) (by omega)) _ _ (hCBg j u hu)).1
  have HNc : Hid (∀ j u, NW[j]? = some u → W1.cell? ((⟨g0, 0, none⟩ : Addr).add j) = some u) := by
    intro j u hu
    rw [Addr.add_lit, Nat.zero_add]
    have hb' := K1.out.heap hb (fun h => h)
    rw [← hNW] at hu
    exact (row_cell (xs := [_, _]) hb' _ _ hu).1
  rw [hNW, hNB]
  have hi2 : (i + 1) * 2 = i * 2 + 2 := by omega
  have HNB : Hid (w.heap.size = NB) := hNB
  clear hCB hCBg hR hNW hX hb hr0 hold hik hki hROW hRl hRt hW1 hAX hAl hNB hG hl1 hc hgw hg0w hNl
  unfold maxLen at hcm hG2
  have hci : (c : Int) ≤ 9223372036854775807 := by omega
  have hGi : (G : Int) ≤ 9223372036854775807 := by omega
  have h1b : ((i : Int) == (n : Int)) = false := by simp; omega
  have h1 : ¬ ((i : Int) = (n : Int)) := by omega
  have h2 : (c : Int) < (n : Int) + 1 := by omega
  have h5 : ((i : Int) + 1).toNat = i + 1 := by omega
  have h6 : (0 : Int) ≤ (i : Int) + 1 := by omega
  have h7 : ((i : Int) + 1) ≤ (n : Int) + 1 := by omega
  have h8 : (i : Int) ≤ (n : Int) + 1 := by omega
  have h9 : (i : Int) ≤ (n : Int) := by omega
  have hb1 : ¬ (c = i) := by omega
  have hb3 : ¬ (G = i) := by omega
  have hb4 : ¬ (G = i + 1) := by omega
  have hw1 : IntKind.i64.wrap ((n : Int) + 1) = (n : Int) + 1 := by rw [IntKind.wrap_i64]; omega
  have hw2 : IntKind.i64.wrap ((i : Int) + 1) = (i : Int) + 1 := by rw [IntKind.wrap_i64]; omega
  go_enter Try.func34, Try.ntmps34
  go_wp2_with (first
    | (at_builtin; refine Lib.wpList_append_run _ rfl _ _ _ _ rfl _ _ rfl rfl _ _ (hrz _) ?_)
    | (refine wpList_copy_wide rfl (.tmp 43) (.tmp 44) 22 22 rfl 36 2 Try.underlying22 hsz NB (i * 2) (n + 1 - i) (G - i) ⟨g0, 0, none⟩ 1 1 rfl rfl ROW 36 G1.out NW HL1.out HNc.out HL2.out hN1 ?_; intro w2 G2 K2))
  have HC2 := HCg.out w2.drew (K2.out.drew)
  go_region_law (refine step_copy_wide rfl (.tmp 50) (.tmp 53) 22 22 rfl 36 2 Try.underlying22 hsz NB (i * 2 + 2) (n + 1 - (i + 1)) (G - (i + 1)) ⟨g, i * 2, none⟩ (n - i) (c - i) (by simp [Act.eval, Act.put, hi2]) (by simp [Act.eval, Act.put]) (splice ROW (i * 2) NW) 36 (by exact G2.out) CB HL3.out (by exact HC2) HL4.out hCB1 ?_; intro w3 G3 K3)
  go_wp2
  go_ret
  exact ⟨_, rfl, HF.out _ G3.out, (K1.out.trans K2.out (fun x hx => .inr (by rw [HNB.out]; omega))).trans ((Chg.refl _ w2).drew.then K3.out) (fun x hx => .inr (by rw [HNB.out]; omega))⟩

end Go.Proofs.Ytedhlidmmmlemaa.st
