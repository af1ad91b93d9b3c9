/- Contracts of IDs and All. -/
import Derived.Test.YtedhlidmmmlemaaTak
namespace Go.Proofs.Ytedhlidmmmlemaa.st
open Go.ChangeShapes Go.WideShapes Go.ChangeAt Go.RowKit Go.Proofs.Ytedhlidmmmlemaa.hp
set_option linter.unusedVariables false
set_option linter.unusedSimpArgs false

/-- The ids, so far; zeros behind them. -/
def fillI (ids : List Int) (n k : Nat) : List Value := (ids.take k ++ List.replicate (n - k) 0).map (Value.int .i64)

theorem fillI_set (ids : List Int) (n k : Nat) (hl : ids.length = n) (hk : k < n) : (fillI ids n k).set k (.int .i64 (ids.getD k 0)) = fillI ids n (k + 1) := by
  unfold fillI
  rw [← List.map_set]
  congr 1
  have l1 : (ids.take k).length = k := by rw [List.length_take]; omega
  rw [List.set_append_right _ _ (by omega), l1, Nat.sub_self, take_snoc ids k 0 (by omega), show n - k = (n - (k + 1)) + 1 by omega, List.replicate_succ, List.set_cons_zero, List.append_assoc]
  rfl

theorem fillI_len (ids : List Int) (n k : Nat) (hl : ids.length = n) (hk : k ≤ n) : (fillI ids n k).length = n := by
  unfold fillI
  rw [List.length_map, List.length_append, List.length_take, List.length_replicate]
  omega

theorem made_int (n : Nat) : madeCells #[Value.int .i64 0] n = ((List.replicate n (0 : Int)).map (Value.int .i64)).toArray := by
  apply Array.ext'
  rw [toList_madeCells_one]
  simp

set_option maxRecDepth 100000 in
set_option maxHeartbeats 4000000 in
theorem ids_any {F : Nat → Prop} {p : Nat} {L : List Bk} {m : Nat} {w : World} (h : St 64 36 F p L m w) :
    Calls Try.prog 22 #[pt p] w fun e w' => ∃ a c, e = .returned (.slice a L.length c) ∧ Lies (Anew w w') w' (.slice a L.length c) ((L.map (·.1)).map (Value.int .i64)) ∧ Chg no w w' := by
  obtain ⟨v, xs, D, h1, rfl, h3, h4, h5⟩ := h
  have hx : xs.length ≤ 64 := by rw [abs_len] at h4; omega
  have H1 : Hid (Stw 64 36 F D p v xs m w) := h1
  obtain ⟨d0, _, _, _, d4⟩ := h1.cells
  obtain ⟨a0, c0, hv⟩ := h1.shape
  subst hv
  obtain ⟨ids, hids⟩ : ∃ ids, (abs xs).map (·.1) = ids := ⟨_, rfl⟩
  have HG : Hid (∀ k, k < xs.length → ids.getD k 0 = (xs.getD k dBV).id) := by
    intro k hk
    rw [← hids, List.getD_eq_getElem?_getD, List.getElem?_map]
    have := abs_getD xs k
    rw [List.getD_eq_getElem?_getD, List.getElem?_eq_getElem (by rw [abs_len]; exact hk)] at this
    rw [List.getElem?_eq_getElem (by rw [abs_len]; exact hk)]
    simp only [Option.getD_some] at this
    simp only [Option.map_some, Option.getD_some]
    rw [this]
    rfl
  rw [hids, abs_len]
  have hil : ids.length = xs.length := by rw [← hids, List.length_map, abs_len]
  obtain ⟨n, hn⟩ : ∃ n, xs.length = n := ⟨_, rfl⟩
  have HL : Hid (xs.length = n) := hn
  have HIL : Hid (ids.length = n) := by rw [← hn]; exact hil
  rw [hn] at hx d0 HG ⊢
  have hni : (n : Int) ≤ 64 := by omega
  have hmake := fun w => run_make_row' (P := Try.prog) 52 3 (.int .i64 0) 8 Try.underlying52 info3 rfl .i64 .i64 n (by omega) (by omega) w
  have HB0 : Hid ((w.alloc (.cells (madeCells #[.int .i64 0] n) 3)).heap[w.heap.size]? = some (.cells (fillI ids n 0).toArray 3 (0, 0))) := by
    show _ = _
    rw [made_int]
    have := heap_alloc_new w (.cells ((List.replicate n (0 : Int)).map (Value.int .i64)).toArray 3)
    rw [this]
    rfl
  clear h1 h3 h4 h5 hids hil hn
  go_enter Try.func22, Try.ntmps22
  go_wp2_with fail
  go_loopw [4, 5, 17] (fun _ _ i wr => ∃ k : Nat, k ≤ n ∧ i = .int .i64 (k : Int) ∧ wr.heap[w.heap.size]? = some (.cells (fillI ids n k).toArray 3 (0, 0)) ∧ Chg no w wr) (fun _ _ i _ => n - (intOf i).toNat)
  case atStart => exact ⟨0, by omega, rfl, HB0.out, (Chg.refl no w).alloc _⟩
  case round =>
    clear HB0
    obtain ⟨k, hk, rfl, hB, hC⟩ := hrel
    have HC : Hid (Chg no w wr) := hC
    have HB : Hid (wr.heap[w.heap.size]? = some (.cells (fillI ids n k).toArray 3 (0, 0))) := hB
    by_cases hkn : k < n
    · have hki : (k : Int) < n := by omega
      obtain ⟨y, ab, cb, rfl, e0, e1, _, _, _, hlt, hne⟩ := (H1.out.same hC).bks.at k (by rw [HL.out]; exact hkn)
      obtain ⟨I, hI⟩ : ∃ I, (xs.getD k dBV).id = I := ⟨_, rfl⟩
      have hG := HG.out k hkn
      rw [hI] at e0 hG
      obtain ⟨l1, hl1⟩ : ∃ l, (xs.getD k dBV).d.length = l := ⟨_, rfl⟩
      rw [hl1] at e1
      have hfl := fillI_len ids n k HIL.out (by omega)
      obtain ⟨x0, hx0⟩ : ∃ x0, (fillI ids n k)[k]? = some x0 := ⟨_, List.getElem?_eq_getElem (by rw [hfl]; exact hkn)⟩
      obtain ⟨f0, f1⟩ := row_cell hB k x0 hx0
      have f2 := lt_of_block hB
      have f3 : w.heap.size ≠ wr.heap.size := by omega
      have HE : Hid (∀ o : Obj, ((wr.setCell ⟨w.heap.size, k, none⟩ (.int .i64 I)).alloc o).heap[w.heap.size]? = some (.cells (fillI ids n (k + 1)).toArray 3 (0, 0)) ∧ Chg no w ((wr.setCell ⟨w.heap.size, k, none⟩ (.int .i64 I)).alloc o)) := by
        intro o
        have := row_set HB.out k (.int .i64 I)
        rw [← hG, fillI_set ids n k HIL.out hkn, hG] at this
        exact ⟨((Chg.refl no _).alloc o).heap this (fun h => h), (HC.out.setCell _ _ (.inr (Nat.le_refl _))).alloc o⟩
      clear hB hC hfl hx0 hI hl1 hG
      go_wp2
      go_roundw
      case rel => exact ⟨k + 1, by omega, by go_num, (HE.out _).1, (HE.out _).2⟩
      case measure => simp [intOf]; omega
    · obtain rfl : k = n := by omega
      have hki : (k : Int) ≤ k := by omega
      have HR : Hid (Lies (Anew w wr) wr (.slice (some ⟨w.heap.size, 0, none⟩) k k) (ids.map (Value.int .i64))) := by
        have h1 : fillI ids k k = ids.map (Value.int .i64) := by
          unfold fillI
          rw [Nat.sub_self, List.take_of_length_le (by rw [HIL.out]; omega)]
          simp
        have hB2 := HB.out
        rw [h1] at hB2
        have hL := lies_block hB2 k
        rw [List.length_map, HIL.out] at hL
        exact hL.mono (fun b hb => by subst hb; exact ⟨Nat.le_refl _, lt_of_block hB2⟩)
      clear hB hC HB
      go_wp2
      go_ret
      exact ⟨_, _, rfl, HR.out, HC.out⟩

end Go.Proofs.Ytedhlidmmmlemaa.st
