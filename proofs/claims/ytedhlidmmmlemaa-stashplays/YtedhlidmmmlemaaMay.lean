/- Contracts of May and of the document's MayBlocks. -/
import Derived.Test.YtedhlidmmmlemaaRsm
namespace Go.Proofs.Ytedhlidmmmlemaa.st
open Go.ChangeShapes Go.WideShapes Go.ChangeAt Go.RowKit Go.Proofs.Ytedhlidmmmlemaa.hp
set_option linter.unusedVariables false

/-- Which ids were seen. -/
def seenL (l : List Bk) : List Bool := (List.range 64).map fun (i : Nat) => decide ((i : Int) ∈ l.map (·.1))

theorem seen_get (l : List Bk) (i : Nat) (hi : i < 64) : (seenL l)[i]? = some (decide ((i : Int) ∈ l.map (·.1))) := by
  unfold seenL
  rw [List.getElem?_map, List.getElem?_range hi]
  rfl

theorem seen_len (l : List Bk) : (seenL l).length = 64 := by simp [seenL]

theorem seen_set (l : List Bk) (i : Nat) (hi : i < 64) (d : List Int) : (seenL l).set i true = seenL (l ++ [((i : Int), d)]) := by
  apply List.ext_getElem?
  intro j
  by_cases hj : j < 64
  · rw [List.getElem?_set, seen_get _ j hj, seen_get _ j hj]
    by_cases e : i = j
    · subst e
      rw [if_pos rfl, if_pos (by rw [seen_len]; exact hi)]
      simp
    · rw [if_neg e]
      congr 1
      apply decide_eq_decide.2
      simp
      omega
  · rw [List.getElem?_eq_none (by simp [seen_len]; omega), List.getElem?_eq_none (by rw [seen_len]; omega)]

theorem seen_nil : (seenL []).map Value.bool = List.replicate 64 (.bool false) := by
  have : seenL [] = List.replicate 64 false := by decide
  rw [this, List.map_replicate]

/-- The marks in memory. -/
def SeenAt (p : Nat) (l : List Bk) (wr : World) : Prop := ∃ t, wr.heap[p]? = some (.cells ((seenL l).map Value.bool).toArray t (0, 0))

theorem SeenAt.at {p : Nat} {l : List Bk} {wr : World} (h : SeenAt p l wr) (i : Nat) (hi : i < 64) : wr.cell? ⟨p, i, none⟩ = some (.bool (decide ((i : Int) ∈ l.map (·.1)))) ∧ wr.frozen? ⟨p, i, none⟩ = false ∧ p < wr.heap.size := by
  obtain ⟨t, h⟩ := h
  obtain ⟨h1, h2⟩ := row_cell h i (.bool (decide ((i : Int) ∈ l.map (·.1)))) (by rw [List.getElem?_map, seen_get l i hi]; rfl)
  exact ⟨h1, h2, lt_of_block h⟩

theorem SeenAt.put {p : Nat} {l : List Bk} {wr : World} (h : SeenAt p l wr) (i : Nat) (hi : i < 64) (d : List Int) : SeenAt p (l ++ [((i : Int), d)]) (wr.setCell ⟨p, i, none⟩ (.bool true)) := by
  obtain ⟨t, h⟩ := h
  refine ⟨t, ?_⟩
  rw [row_set h i (.bool true), ← seen_set l i hi d, List.map_set]

theorem SeenAt.same {p : Nat} {l : List Bk} {w w' : World} (h : SeenAt p l w) (c : Chg no w w') : SeenAt p l w' := by
  obtain ⟨t, h⟩ := h
  exact ⟨t, c.heap h id⟩

set_option maxHeartbeats 4000000 in
theorem may_any (w : World) (v : Value) (xs : List BV) (h : Bks w v xs) (hx : xs.length ≤ 100000) :
    Calls Try.prog 27 #[v] w fun e w' => e = .returned (.bool (mayL (abs xs))) ∧ Chg no w w' := by
  obtain ⟨a, cap, rfl⟩ := h.slice
  have HO : Hid (Bks w (.slice a xs.length cap) xs) := h
  obtain ⟨R, hR⟩ : ∃ R, mayL (abs xs) = R := ⟨_, rfl⟩
  have HR : Hid (mayL (abs xs) = R) := hR
  obtain ⟨n, hn⟩ : ∃ n, xs.length = n := ⟨_, rfl⟩
  have HL : Hid (xs.length = n) := hn
  rw [hn] at HO hx ⊢
  rw [hR]
  have hni : (n : Int) ≤ 100000 := by omega
  clear h hn hR
  have H0 : Hid (∀ o : Obj, o = .cells (List.replicate 64 (.bool false)).toArray 72 (0, 0) → SeenAt w.heap.size ((abs xs).take 0) (w.alloc o)) := by
    intro o ho
    subst ho
    exact ⟨_, by rw [List.take_zero, seen_nil]; exact heap_alloc_new _ _⟩
  go_enter Try.func27, Try.ntmps27
  go_wp2_with fail
  go_loopw [8] (fun i wr => ∃ k : Nat, k ≤ n ∧ i = .int .i64 (k : Int) ∧ Chg no w wr ∧ mayP ((abs xs).take k) ∧ SeenAt w.heap.size ((abs xs).take k) wr) (fun i _ => n - (intOf i).toNat)
  case atStart => exact ⟨0, by omega, rfl, (Chg.refl no w).alloc _, mayP_nil, H0.out _ rfl⟩
  case round =>
    clear H0
    obtain ⟨k, hk, rfl, hC, hM, hS⟩ := hrel
    by_cases hkn : k < n
    · have hki : (k : Int) < n := by omega
      have q1 : k < (abs xs).length := by rw [abs_len, HL.out]; exact hkn
      obtain ⟨y, ab, cb, rfl, e0, e1, _, _, _, o1, n1⟩ := (HO.out.later hC).at k (by rw [HL.out]; exact hkn)
      have HST := mayP_step q1
      have HSN := take_snoc (abs xs) k dBk q1
      have HF : Hid (¬ (okB ((abs xs).getD k dBk) ∧ ((abs xs).getD k dBk).1 ∉ ((abs xs).take k).map (·.1)) → R = false) := by
        intro hne
        rw [← HR.out]
        exact mayL_false (fun h => hne (HST.1 h).2)
      have HT : Hid (okB ((abs xs).getD k dBk) ∧ ((abs xs).getD k dBk).1 ∉ ((abs xs).take k).map (·.1) → mayP ((abs xs).take (k + 1))) := fun h => HST.2 ⟨hM, h⟩
      rw [abs_getD] at HF HT HSN
      clear HST q1
      obtain ⟨⟨i1, v1, d1⟩, hx1⟩ : ∃ X, xs.getD k dBV = X := ⟨_, rfl⟩
      rw [hx1] at e0 e1 HF HT HSN
      simp only [BV.bk] at e0 e1 HF HT HSN
      have HN : Hid ((abs xs).take (k + 1) = (abs xs).take k ++ [(i1, d1)]) := HSN
      have HS : Hid (SeenAt w.heap.size ((abs xs).take k) wr) := hS
      have HC : Hid (Chg no w wr) := hC
      have HI := isID_any (wr.alloc (.cells #[.int .i64 i1, .slice ab d1.length cb] 36)) i1
      clear hx1 HSN hM
      by_cases hid : 0 ≤ i1 ∧ i1 < 64
      · rw [decide_eq_true hid] at HI
        obtain ⟨i, rfl⟩ := Int.eq_ofNat_of_zero_le hid.1
        have hi : i < 64 := by omega
        obtain ⟨s0, s1, s2⟩ := hS.at i hi
        have hii : (i : Int) < 64 := by omega
        have hp : w.heap.size ≠ wr.heap.size := by omega
        clear hS hC
        by_cases hin : ((i : Int) ∈ ((abs xs).take k).map (·.1))
        · rw [decide_eq_true hin] at s0
          have hR : R = false := HF.out (fun h => h.2 hin)
          subst hR
          clear HF HT hin hid
          go_wp2_with fail
          refine HI.mono ?_
          rintro e w2 ⟨rfl, rfl⟩
          clear HI
          go_wp2
          go_ret
          exact ⟨rfl, HC.out.alloc _⟩
        · rw [decide_eq_false hin] at s0
          obtain ⟨L, hL⟩ : ∃ L, d1.length = L := ⟨_, rfl⟩
          by_cases h37 : L = 37
          · have hM' : Hid (mayP ((abs xs).take (k + 1))) := HT.out ⟨⟨hid.1, hid.2, by rw [hL]; exact h37⟩, hin⟩
            subst h37
            rw [hL] at e1 HI
            have HE : Hid (SeenAt w.heap.size ((abs xs).take (k + 1)) ((wr.setCell ⟨w.heap.size, i, none⟩ (.bool true)).alloc (.cells #[.int .i64 i, .slice ab 37 cb] 36)) ∧ Chg no w ((wr.setCell ⟨w.heap.size, i, none⟩ (.bool true)).alloc (.cells #[.int .i64 i, .slice ab 37 cb] 36))) := by
              refine ⟨?_, (HC.out.setCell _ _ (.inr (Nat.le_refl _))).alloc _⟩
              rw [HN.out]
              exact (HS.out.put i hi d1).same ((Chg.refl no _).alloc _)
            clear HF HT hin hid hL
            go_wp2_with fail
            refine HI.mono ?_
            rintro e w2 ⟨rfl, rfl⟩
            clear HI
            go_wp2
            go_roundw
            case rel => exact ⟨k + 1, by omega, by go_num, HE.out.2, hM'.out, HE.out.1⟩
            case measure => simp [intOf]; omega
          · have hR : R = false := HF.out (fun h => h37 (by rw [← hL]; exact h.1.2.2))
            subst hR
            rw [hL] at e1 HI
            have hb1 : ((L : Int) != 37) = true := by simp; omega
            have hb2 : (L != 37) = true := by simpa using h37
            clear HF HT hin hid hL
            go_wp2_with fail
            refine HI.mono ?_
            rintro e w2 ⟨rfl, rfl⟩
            clear HI
            go_wp2
            go_ret
            exact ⟨rfl, HC.out.alloc _⟩
      · rw [decide_eq_false hid] at HI
        have hR : R = false := HF.out (fun h => hid ⟨h.1.1, h.1.2.1⟩)
        subst hR
        clear HF HT hid hS hC
        go_wp2_with fail
        refine HI.mono ?_
        rintro e w2 ⟨rfl, rfl⟩
        clear HI
        go_wp2
        go_ret
        exact ⟨rfl, HC.out.alloc _⟩
    · obtain rfl : k = n := by omega
      have hki : (k : Int) ≤ k := by omega
      have hR : R = true := by
        rw [List.take_of_length_le (by rw [abs_len, HL.out]; omega)] at hM
        rw [← HR.out]
        exact decide_eq_true hM
      subst hR
      clear hM hS
      go_wp2
      go_ret
      exact ⟨rfl, hC⟩

end Go.Proofs.Ytedhlidmmmlemaa.st
