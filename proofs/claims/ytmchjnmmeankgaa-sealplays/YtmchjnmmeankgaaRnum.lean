/- The contract of the document's Num. -/
import Derived.Test.YtmchjnmmeankgaaPut
namespace Go.Proofs.Ytmchjnmmeankgaa.st
open Go.ChangeShapes Go.WideShapes Go.ChangeAt Go.RowKit Go.Proofs.Ytmchjnmmeankgaa.hp Go.Proofs.Ytmchjnmmeankgaa.dg
set_option linter.unusedVariables false

def Bytes (zs : List Int) : Prop := ∀ x ∈ zs, 0 ≤ x ∧ x ≤ 255

theorem dec_take (zs : List Int) (j : Nat) (hj : j < zs.length) : dec 0 (zs.take (j + 1)) = dec 0 (zs.take j) * 256 + zs.getD j 0 := by
  rw [List.take_succ_eq_append_getElem hj, dec_append]
  simp [List.getD_eq_getElem?_getD, List.getElem?_eq_getElem hj]

theorem Bytes.take {zs : List Int} (h : Bytes zs) (j : Nat) : Bytes (zs.take j) := fun x hx => h x (List.mem_of_mem_take hx)
theorem Bytes.drop {zs : List Int} (h : Bytes zs) (j : Nat) : Bytes (zs.drop j) := fun x hx => h x (List.mem_of_mem_drop hx)

theorem Bytes.get {zs : List Int} (h : Bytes zs) (j : Nat) : 0 ≤ zs.getD j 0 ∧ zs.getD j 0 ≤ 255 := by
  by_cases hj : j < zs.length
  · have e : zs.getD j 0 = zs[j] := by simp [List.getD_eq_getElem?_getD, List.getElem?_eq_getElem hj]
    rw [e]
    exact h _ (List.getElem_mem _)
  · have e : zs.getD j 0 = 0 := by simp [List.getD_eq_getElem?_getD, List.getElem?_eq_none (show zs.length ≤ j by omega)]
    rw [e]
    omega

theorem dec_small {zs : List Int} (h : Bytes zs) (hl : zs.length ≤ 7) (j : Nat) (hj : j < zs.length) : 0 ≤ dec 0 (zs.take j) ∧ dec 0 (zs.take j) < 281474976710656 := by
  have e := dec_bound (zs.take j) (h.take j) 0 0 (by omega) (by decide)
  have e2 : (zs.take j).length = j := by simp; omega
  rw [e2] at e
  refine ⟨e.1, ?_⟩
  have hc : j = 0 ∨ j = 1 ∨ j = 2 ∨ j = 3 ∨ j = 4 ∨ j = 5 ∨ j = 6 := by omega
  have e3 := e.2
  rcases hc with rfl | rfl | rfl | rfl | rfl | rfl | rfl <;> simp at e3 <;> omega

set_option maxHeartbeats 1000000 in
theorem rnum_any {J : Nat → Prop} (w : World) (v : Value) (zs : List Int) (hv : Lies J w v (zs.map (Value.int .u8))) (hb : Bytes zs) (h1 : 1 ≤ zs.length) (h2 : zs.length ≤ 7) :
    Calls Try.prog 48 #[v] w fun e w' => e = .returned (.int .i64 (told zs)) ∧ w' = w := by
  obtain ⟨x, c, rfl, hcell⟩ := hv.slice
  simp only [List.length_map]
  have HJ : Hid (∀ j, j < zs.length → ∃ y, x = some y ∧ w.cell? (y.add j) = some (.int .u8 (zs.getD j 0))) := by
    intro j hj
    obtain ⟨y, hy, hy2, hy3⟩ := hcell j (.int .u8 (zs.getD j 0)) (by rw [List.getElem?_map, List.getD_eq_getElem?_getD, List.getElem?_eq_getElem hj]; rfl)
    exact ⟨y, hy, hy3⟩
  have HM := most_any w zs.length h1 h2
  have HB : Hid (Bytes zs) := hb
  have i1 : (1 : Int) ≤ zs.length := by omega
  have i2 : (zs.length : Int) ≤ 7 := by omega
  clear hcell hb hv
  go_enter Try.func48, Try.ntmps48
  go_wp2_with fail
  go_loop [3, 4] (fun n i => ∃ j : Nat, j ≤ zs.length ∧ n = .int .i64 (dec 0 (zs.take j)) ∧ i = .int .i64 (j : Int)) (fun _ i => zs.length - (intOf i).toNat)
  case atStart => exact ⟨0, by omega, rfl, rfl⟩
  case round =>
    obtain ⟨j, hj, rfl, rfl⟩ := hrel
    by_cases hjn : j < zs.length
    · have hji : (j : Int) < zs.length := by omega
      obtain ⟨y, rfl, hc⟩ := HJ.out j hjn
      obtain ⟨b1, b2⟩ := dec_small HB.out h2 j hjn
      obtain ⟨d1, d2⟩ := HB.out.get j
      have HS : Hid (dec 0 (zs.take (j + 1)) = dec 0 (zs.take j) * 256 + zs.getD j 0) := dec_take zs j hjn
      obtain ⟨D, hD⟩ : ∃ D, zs.getD j 0 = D := ⟨_, rfl⟩
      obtain ⟨N, hN⟩ : ∃ N, dec 0 (zs.take j) = N := ⟨_, rfl⟩
      rw [hD] at hc d1 d2 HS
      rw [hN] at b1 b2 HS ⊢
      have ho := or_byte N D b1 (by omega) d1 d2
      clear hD hN
      go_wp2
      go_round
      case rel => exact ⟨j + 1, by omega, by rw [HS.out], by go_num⟩
      case measure => simp [intOf]; omega
    · obtain rfl : j = zs.length := by omega
      have hji : (zs.length : Int) ≤ (zs.length : Int) := by omega
      have HT : Hid (told zs = if dec 0 zs = most zs.length then -1 else dec 0 zs) := rfl
      rw [List.take_length]
      obtain ⟨N, hN⟩ : ∃ N, dec 0 zs = N := ⟨_, rfl⟩
      obtain ⟨M, hM⟩ : ∃ M, most zs.length = M := ⟨_, rfl⟩
      rw [hM] at HM HT
      rw [hN] at HT ⊢
      clear hN hM HJ
      by_cases he : N = M
      · subst he
        go_wp2_with fail
        refine HM.mono ?_
        rintro e w5 ⟨rfl, rfl⟩
        go_wp2
        go_ret
        exact ⟨ret_int (by rw [HT.out]; simp), rfl⟩
      · have heb : (N == M) = false := by simpa using he
        go_wp2_with fail
        refine HM.mono ?_
        rintro e w5 ⟨rfl, rfl⟩
        go_wp2
        go_ret
        exact ⟨ret_int (by rw [HT.out, if_neg he]), rfl⟩

end Go.Proofs.Ytmchjnmmeankgaa.st
