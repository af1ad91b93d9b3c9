/- The contract of first: what the chapter's examples fix. -/
import Derived.Test.YtedhlidmmmlemaaSma
namespace Go.Proofs.Ytedhlidmmmlemaa.st
open Go.ChangeShapes Go.WideShapes Go.ChangeAt Go.RowKit Go.Proofs.Ytedhlidmmmlemaa.hp
set_option linter.unusedVariables false
set_option linter.unusedSimpArgs false

theorem fir1 : putA [] (3, rowL 1) = [(3, rowL 1)] ∧ mostA [] 0 (3, rowL 1) = 1 ∧ decide (okB (3, rowL 1)) = true := by decide +kernel
theorem fir2 : putA [(3, rowL 1)] (3, rowL 2) = [(3, rowL 2)] ∧ mostA [(3, rowL 1)] 1 (3, rowL 2) = 1 ∧ decide (okB (3, rowL 2)) = true := by decide +kernel
theorem fir3 : getL [(3, rowL 2)] 3 = (3, rowL 2) ∧ hasL [(3, rowL 2)] 3 = true ∧ decide (okB (3, [])) = false := by decide +kernel

/-- A row of the law's, put: the value, where it lies. -/
theorem put_row {F : Nat → Prop} {p : Nat} {L : List Bk} {m : Nat} {w w1 : World} (h : St 64 36 F p L m w) (i c : Int) (hc : 0 ≤ c ∧ c ≤ 255) (k : Chg no w w1) (hb : w1.heap[w.heap.size]? = some (.cells ((rowL c).map (Value.int .u8)).toArray 5 (0, 0))) :
    Calls Try.prog 12 #[pt p, bv i (some ⟨w.heap.size, 0, none⟩) 37 37] w1 fun e w' => e = .returned (.bool (decide (okB (i, rowL c)))) ∧ St 64 36 (Wid F w1 w') p (putA L (i, rowL c)) (mostA L m (i, rowL c)) w' ∧ Chg F w1 w' := by
  have hL := lies_block hb 37
  rw [List.length_map, rowL_len] at hL
  exact put_any (h.same k) i _ 37 37 (rowL c) (Lies.old hL) (rowL_bytes hc) (rowL_len c)

set_option maxRecDepth 100000 in
set_option maxHeartbeats 4000000 in
theorem first_any (w : World) : Calls Try.prog 7 #[] w fun e w' => e = .returned (.bool true) ∧ Chg no w w' := by
  have HN := new_any w (.slice none 0 0) [] (Bks.nil w) (by simp)
  have HRow := fun W c => row_any W c
  go_enter Try.func7, Try.ntmps7
  go_wp2_with fail
  refine HN.mono ?_
  rintro e w1 ⟨p, F, rfl, S1, hF, k1⟩
  have HS1 : Hid (St 64 36 F p [] 0 w1) := S1
  have HF1 : Hid (∀ b, F b → w.heap.size ≤ b) := hF
  have HK1 : Hid (Chg no w w1) := k1
  clear HN S1 hF k1
  go_wp2_with fail
  refine (HRow w1 1).mono ?_
  rintro e w2 ⟨rfl, b2, k2⟩
  have HP := put_row HS1.out 3 1 (by omega) k2 b2
  rw [fir1.1, fir1.2.1, fir1.2.2] at HP
  have HK2 : Hid (Chg no w w2) := HK1.out.then k2
  clear b2 k2
  go_wp2_with fail
  refine HP.mono ?_
  rintro e w3 ⟨rfl, S3, k3⟩
  have HS3 : Hid (∃ F3, St 64 36 F3 p [(3, rowL 1)] 1 w3 ∧ (∀ b, F3 b → w.heap.size ≤ b) ∧ Chg no w w3) := ⟨_, S3, fun b hb => by
    rcases hb with hb | hb
    · exact HF1.out b hb
    · have := hb.1
      have := HK2.out.size
      omega, HK2.out.trans k3 (fun b hb => .inr (HF1.out b hb))⟩
  clear HP S3 k3
  go_wp2_with fail
  refine (HRow w3 2).mono ?_
  rintro e w4 ⟨rfl, b4, k4⟩
  obtain ⟨F3, S3, hF3, K3⟩ := HS3.out
  have HP := put_row S3 3 2 (by omega) k4 b4
  rw [fir2.1, fir2.2.1, fir2.2.2] at HP
  have HK4 : Hid (Chg no w w4) := K3.then k4
  have HF3 : Hid (∀ b, F3 b → w.heap.size ≤ b) := hF3
  clear b4 k4 S3 hF3 K3 HS3
  go_wp2_with fail
  refine HP.mono ?_
  rintro e w5 ⟨rfl, S5, k5⟩
  have HK5 : Hid (Chg no w w5) := HK4.out.trans k5 (fun b hb => .inr (HF3.out b hb))
  have HF5 : Hid (∀ b, Wid F3 w4 w5 b → w.heap.size ≤ b) := by
    rintro b (hb | hb)
    · exact HF3.out b hb
    · have := hb.1
      have := HK4.out.size
      omega
  have HS5 : Hid (St 64 36 (Wid F3 w4 w5) p [(3, rowL 2)] 1 w5) := S5
  have HG := get_any S5 3
  rw [fir3.1, fir3.2.1] at HG
  simp only [rowL_len] at HG
  clear HP S5 k5
  go_wp2_with fail
  refine HG.mono ?_
  rintro e w6 ⟨a6, c6, rfl, l6, k6⟩
  obtain ⟨x6, hx6, _, e6⟩ : ∃ x6, a6 = some x6 ∧ True ∧ w6.cell? x6 = some (.int .u8 2) := by
    obtain ⟨a', c', e, hc⟩ := l6.slice
    cases e
    obtain ⟨x, hx, _, h2⟩ := hc 0 (.int .u8 2) rfl
    exact ⟨x, hx, trivial, by simpa [Addr.add] using h2⟩
  subst hx6
  have HK6 : Hid (Chg no w w6) := HK5.out.then k6
  have S6 := HS5.out.same k6
  have HS6 : Hid (St 64 36 (Wid F3 w4 w5) p [(3, rowL 2)] 1 w6) := S6
  have HLn := len_any S6
  have HP := put_any S6 3 none 0 0 [] (.inl ⟨rfl, rfl⟩) (fun x hx => by simp at hx) rfl
  rw [fir3.2.2] at HP
  clear HG l6 k6 S6
  go_wp2_with fail
  refine HLn.mono ?_
  rintro e w7 ⟨rfl, rfl⟩
  clear HLn
  go_wp2_with fail
  refine HP.mono ?_
  rintro e w8 ⟨rfl, S8, k8⟩
  have HK8 : Hid (Chg no w w8) := HK6.out.trans k8 (fun b hb => .inr (HF5.out b hb))
  clear S8 k8 HP
  go_wp2
  go_ret
  exact ⟨rfl, HK8.out⟩

end Go.Proofs.Ytedhlidmmmlemaa.st
