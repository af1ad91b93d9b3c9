/- Contract of the document's MayBlocks. -/
import Derived.Test.YtedhlidmmmlemaaMay
namespace Go.Proofs.Ytedhlidmmmlemaa.st
open Go.ChangeShapes Go.WideShapes Go.ChangeAt Go.RowKit Go.Proofs.Ytedhlidmmmlemaa.hp
set_option linter.unusedVariables false

theorem mem_take {l : List Bk} {k : Nat} {i : Int} (hk : k ≤ l.length) : i ∈ (l.take k).map (·.1) ↔ ∃ j, j < k ∧ (l.getD j dBk).1 = i := by
  constructor
  · intro h
    obtain ⟨b, hb, rfl⟩ := List.mem_map.1 h
    obtain ⟨j, hj⟩ := List.mem_iff_getElem?.1 hb
    have hjk : j < k := by
      have := (List.getElem?_eq_some_iff.1 hj).1
      rw [List.length_take] at this
      omega
    rw [List.getElem?_take_of_lt hjk] at hj
    exact ⟨j, hjk, by rw [List.getD_eq_getElem?_getD, hj]; rfl⟩
  · rintro ⟨j, hj, rfl⟩
    refine List.mem_map.2 ⟨l.getD j dBk, ?_, rfl⟩
    have hl : j < l.length := by omega
    rw [List.getD_eq_getElem?_getD, List.getElem?_eq_getElem hl]
    refine List.mem_iff_getElem?.2 ⟨j, ?_⟩
    rw [List.getElem?_take_of_lt hj, List.getElem?_eq_getElem hl]
    rfl

set_option maxHeartbeats 4000000 in
theorem rmay_any (w : World) (v : Value) (xs : List BV) (h : Bks w v xs) (hx : xs.length ≤ 100000) :
    Calls Try.prog 30 #[v] w fun e w' => e = .returned (.bool (mayL (abs xs))) ∧ Chg no w w' := by
  obtain ⟨a, cap, rfl⟩ := h.slice
  have HO : Hid (Bks w (.slice a xs.length cap) xs) := h
  obtain ⟨R, hR⟩ : ∃ R, mayL (abs xs) = R := ⟨_, rfl⟩
  have HR : Hid (mayL (abs xs) = R) := hR
  obtain ⟨n, hn⟩ : ∃ n, xs.length = n := ⟨_, rfl⟩
  have HL : Hid (xs.length = n) := hn
  rw [hn] at HO hx ⊢
  rw [hR]
  have hni : (n : Int) ≤ 100000 := by omega
  clear h hn hR
  go_enter Try.func30, Try.ntmps30
  go_wp2_with fail
  go_loopw [3, 4] (fun i _ wr => ∃ k : Nat, k ≤ n ∧ i = .int .i64 (k : Int) ∧ Chg no w wr ∧ mayP ((abs xs).take k)) (fun i _ _ => n - (intOf i).toNat)
  case atStart => exact ⟨0, by omega, rfl, Chg.refl no w, mayP_nil⟩
  case round =>
    obtain ⟨k, hk, rfl, hC, hM⟩ := hrel
    by_cases hkn : k < n
    · have hki : (k : Int) < n := by omega
      have q1 : k < (abs xs).length := by rw [abs_len, HL.out]; exact hkn
      obtain ⟨y, ab, cb, rfl, e0, e1, _, _, _, o1, n1⟩ := (HO.out.later hC).at k (by rw [HL.out]; exact hkn)
      have HST := mayP_step q1
      have HF : Hid (¬ (okB ((abs xs).getD k dBk) ∧ ((abs xs).getD k dBk).1 ∉ ((abs xs).take k).map (·.1)) → R = false) := by
        intro hne
        rw [← HR.out]
        exact mayL_false (fun h => hne (HST.1 h).2)
      have HT : Hid (okB ((abs xs).getD k dBk) ∧ ((abs xs).getD k dBk).1 ∉ ((abs xs).take k).map (·.1) → mayP ((abs xs).take (k + 1))) := fun h => HST.2 ⟨hM, h⟩
      rw [mem_take (by omega)] at HF HT
      have HG : Hid (∀ W, Chg no w W → ∀ j, j < n → W.cell? (y.add (j * 2)) = some (.int .i64 ((abs xs).getD j dBk).1)) := by
        intro W hW j hj
        obtain ⟨y', _, _, e, f0, _⟩ := (HO.out.later hW).at j (by rw [HL.out]; exact hj)
        cases e
        rw [abs_getD]
        exact f0
      have e00 := e0
      rw [abs_getD] at HF HT
      clear HST q1
      obtain ⟨⟨i1, v1, d1⟩, hx1⟩ : ∃ X, xs.getD k dBV = X := ⟨_, rfl⟩
      rw [hx1] at e0 e1 HF HT
      simp only [BV.bk] at e0 e1 HF HT
      have HK : Hid (∀ W, Chg no w W → W.cell? (y.add (k * 2)) = some (.int .i64 i1)) := by
        intro W hW
        have := HG.out W hW k hkn
        rw [abs_getD, hx1] at this
        exact this
      have HC : Hid (Chg no w wr) := hC
      clear hx1 hM e00 hC
      by_cases h0 : i1 < 0
      · have hR : R = false := HF.out (fun h => by have := h.1.1; simp only at this; omega)
        subst hR
        clear HF HT HG HK
        go_wp2
        go_ret
        exact ⟨rfl, HC.out⟩
      · have h0' : 0 ≤ i1 := by omega
        by_cases h64 : i1 < 64
        · obtain ⟨L, hL⟩ : ∃ L, d1.length = L := ⟨_, rfl⟩
          rw [hL] at e1
          by_cases h37 : L = 37
          · subst h37
            have HOK : Hid (okB (i1, d1)) := ⟨h0', h64, hL⟩
            clear hL h0
            go_wp2_with fail
            clear e0 e1 o1 n1
            go_loopw [4] (fun i wr => ∃ j : Nat, j ≤ k ∧ i = .int .i64 (j : Int) ∧ Chg no w wr ∧ ∀ j', j' < j → ((abs xs).getD j' dBk).1 ≠ i1) (fun i _ => k - (intOf i).toNat)
            case atStart => exact ⟨0, by omega, rfl, HC.out, fun j' h => by omega⟩
            case round =>
              obtain ⟨j, hj, rfl, hC2, hA⟩ := hrel
              have HA : Hid (∀ j', j' < j → ((abs xs).getD j' dBk).1 ≠ i1) := hA
              have HC2 : Hid (Chg no w wr) := hC2
              clear hA
              by_cases hjk : j < k
              · have hjki : (j : Int) < k := by omega
                have hjn : (j : Int) < n := by omega
                have c1 := HG.out wr hC2 j (by omega)
                have c2 := HK.out wr hC2
                have HH : Hid (((abs xs).getD j dBk).1 = i1 → R = false) := fun e => HF.out (fun h => h.2 ⟨j, hjk, e⟩)
                have HH2 : Hid (((abs xs).getD j dBk).1 ≠ i1 → ∀ j', j' < j + 1 → ((abs xs).getD j' dBk).1 ≠ i1) := by
                  intro hne j' hj'
                  by_cases e : j' = j
                  · subst e; exact hne
                  · exact HA.out j' (by omega)
                obtain ⟨I, hI⟩ : ∃ I, ((abs xs).getD j dBk).1 = I := ⟨_, rfl⟩
                rw [hI] at c1 HH HH2
                clear hC2 hI
                by_cases he : I = i1
                · subst he
                  have hR : R = false := HH.out rfl
                  subst hR
                  have hbb : (I == I) = true := by simp
                  clear HF HT HH HH2
                  go_wp2_with fail
                  go_quiet (fail)
                  go_wp2
                  go_ret
                  exact ⟨rfl, HC2.out.drewN _⟩
                · have hbb : (I == i1) = false := by simpa using he
                  have HA2 : Hid (∀ j', j' < j + 1 → ((abs xs).getD j' dBk).1 ≠ i1) := HH2.out he
                  clear HF HT HH HH2
                  go_wp2_with fail
                  go_quiet (fail)
                  go_wp2
                  go_roundw
                  case rel => exact ⟨j + 1, by omega, by go_num, HC2.out.drewN _, HA2.out⟩
                  case measure => simp [intOf]; omega
              · obtain rfl : j = k := by omega
                have hjki : (j : Int) ≤ j := by omega
                have HM2 : Hid (mayP ((abs xs).take (j + 1))) := HT.out ⟨HOK.out, fun ⟨j', h1, h2⟩ => HA.out j' h1 h2⟩
                clear HF HT hC2
                go_wp2
                go_roundw
                case rel => exact ⟨j + 1, by omega, by go_num, HC2.out, HM2.out⟩
                case measure => simp [intOf]; omega
          · have hR : R = false := HF.out (fun h => h37 (by rw [← hL]; exact h.1.2.2))
            subst hR
            have hb1 : ((L : Int) != 37) = true := by simp; omega
            have hb2 : (L != 37) = true := by simpa using h37
            clear HF HT HG HK
            go_wp2
            go_ret
            exact ⟨rfl, HC.out⟩
        · have h64' : 64 ≤ i1 := by omega
          have hR : R = false := HF.out (fun h => h64 h.1.2.1)
          subst hR
          clear HF HT HG HK
          go_wp2
          go_ret
          exact ⟨rfl, HC.out⟩
    · obtain rfl : k = n := by omega
      have hki : (k : Int) ≤ k := by omega
      have hR : R = true := by
        rw [List.take_of_length_le (by rw [abs_len, HL.out]; omega)] at hM
        rw [← HR.out]
        exact decide_eq_true hM
      subst hR
      clear hM
      go_wp2
      go_ret
      exact ⟨rfl, hC⟩

end Go.Proofs.Ytedhlidmmmlemaa.st
