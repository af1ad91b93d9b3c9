/- The contract of the reader's End. -/
import Derived.Test.YtlcbfdbnjohicaaReaN
namespace Go.Proofs.Ytlcbfdbnjohicaa.st
open Go.ChangeShapes Go.WideShapes Go.ChangeAt Go.RowKit Go.Proofs.Ytlcbfdbnjohicaa.hp Go.Proofs.Ytlcbfdbnjohicaa.dg
set_option linter.unusedVariables false

theorem end_failed {w : World} {p : Nat} {F : Nat → Prop} {zs : List Int} {er : Int} (h : Rea w p F zs er) (he : er ≠ 0) :
    Calls Try.prog 32 #[.pointer (some ⟨p, 0, none⟩)] w fun e w' => e = .returned (.int .i64 er) ∧ w' = w := by
  obtain ⟨J, a, c, h⟩ := h
  obtain ⟨c0, c1, c2, c3⟩ := h.cells
  clear h
  go_enter Try.func32, Try.ntmps32
  go_wp2
  go_ret
  exact ⟨rfl, rfl⟩

/-- Are all of them 0? -/
def zeros (zs : List Int) : Bool := zs.all (fun z => z == 0)

def IdxR (zs : List Int) (w : World) (e : Ending) (w' : World) : Prop := ∃ n : Int, e = .returned (.int .i64 n) ∧ (0 ≤ n ↔ zeros zs = false) ∧ w' = w

theorem zeros_stop (zs : List Int) (j : Nat) (hj : j < zs.length) (h : zs.getD j 0 ≠ 0) : zeros zs = false := by
  have e : zs.getD j 0 = zs[j] := by simp [List.getD_eq_getElem?_getD, List.getElem?_eq_getElem hj]
  rw [e] at h
  unfold zeros
  rw [List.all_eq_false]
  exact ⟨zs[j], List.getElem_mem _, by simpa using h⟩

theorem zeros_step (zs : List Int) (j : Nat) (hj : j < zs.length) (h0 : zeros (zs.take j) = true) (h : zs.getD j 0 = 0) : zeros (zs.take (j + 1)) = true := by
  have e : zs.getD j 0 = zs[j] := by simp [List.getD_eq_getElem?_getD, List.getElem?_eq_getElem hj]
  rw [e] at h
  unfold zeros at *
  rw [List.take_succ_eq_append_getElem hj, List.all_append, h0]
  simp [h]

theorem index_any {J : Nat → Prop} (w : World) (v : Value) (zs : List Int) (hv : Lies J w v (zs.map (Value.int .u8))) (hl : zs.length ≤ 100000000) :
    Calls Try.prog 45 #[v, .func (.func 42) #[] #[]] w (IdxR zs w) := by
  obtain ⟨x, c, rfl, hcell⟩ := hv.slice
  simp only [List.length_map]
  have HJ : Hid (∀ j, j < zs.length → ∃ y, x = some y ∧ w.cell? (y.add j) = some (.int .u8 (zs.getD j 0))) := by
    intro j hj
    obtain ⟨y, hy, hy2, hy3⟩ := hcell j (.int .u8 (zs.getD j 0)) (by rw [List.getElem?_map, List.getD_eq_getElem?_getD, List.getElem?_eq_getElem hj]; rfl)
    exact ⟨y, hy, hy3⟩
  clear hcell hv
  have hli : (zs.length : Int) ≤ 100000000 := by omega
  go_enter Try.func45, Try.ntmps45
  go_wp2_with fail
  go_loop [8] (fun i => ∃ j : Nat, j ≤ zs.length ∧ zeros (zs.take j) = true ∧ i = .int .i64 (j : Int)) (fun i => zs.length - (intOf i).toNat)
  case atStart => exact ⟨0, by omega, rfl, rfl⟩
  case round =>
    obtain ⟨j, hj, hz, rfl⟩ := hrel
    have HZ : Hid (zeros (zs.take j) = true) := hz
    clear hz
    by_cases hjn : j < zs.length
    · have hji : (j : Int) < zs.length := by omega
      obtain ⟨y, rfl, hc⟩ := HJ.out j hjn
      have HS : Hid ((zs.getD j 0 ≠ 0 → zeros zs = false) ∧ (zs.getD j 0 = 0 → zeros (zs.take (j + 1)) = true)) := ⟨zeros_stop zs j hjn, zeros_step zs j hjn HZ.out⟩
      obtain ⟨D, hD⟩ : ∃ D, zs.getD j 0 = D := ⟨_, rfl⟩
      rw [hD] at hc HS
      have HE := end1_any w D
      clear hD
      by_cases hd : D = 0
      · subst hd
        go_wp2_with fail
        refine HE.mono ?_
        rintro e w1 ⟨rfl, rfl⟩
        go_wp2
        go_round
        case rel => exact ⟨j + 1, by omega, HS.out.2 (by trivial), by go_num⟩
        case measure => simp [intOf]; omega
      · have hdb : (D != 0) = true := by simpa using hd
        rw [hdb] at HE
        go_wp2_with fail
        refine HE.mono ?_
        rintro e w1 ⟨rfl, rfl⟩
        go_wp2
        go_ret
        exact ⟨j, rfl, by simp [HS.out.1 hd], rfl⟩
    · obtain rfl : j = zs.length := by omega
      have hji : (zs.length : Int) ≤ (zs.length : Int) := by omega
      go_wp2
      go_ret
      have := HZ.out
      rw [List.take_length] at this
      exact ⟨-1, rfl, by simp [this], rfl⟩

theorem contains_any {J : Nat → Prop} (w : World) (v : Value) (zs : List Int) (hv : Lies J w v (zs.map (Value.int .u8))) (hl : zs.length ≤ 100000000) :
    Calls Try.prog 41 #[v, .func (.func 42) #[] #[]] w fun e w' => e = .returned (.bool (!zeros zs)) ∧ w' = w := by
  have HI := index_any w v zs hv hl
  obtain ⟨x, c, rfl, hcell⟩ := hv.slice
  clear hcell hv
  simp only [List.length_map] at HI ⊢
  go_enter Try.func41, Try.ntmps41
  go_wp2_with fail
  refine HI.mono ?_
  rintro e w1 ⟨n, rfl, hn, rfl⟩
  have HN : Hid (0 ≤ n ↔ zeros zs = false) := hn
  clear hn HI
  go_wp2
  go_ret
  refine ⟨ret_bool ?_, rfl⟩
  have := HN.out
  cases hz : zeros zs <;> simp [hz] at this ⊢ <;> omega

theorem end_ok {w : World} {p : Nat} {F : Nat → Prop} {zs : List Int} (h : Rea w p F zs 0) (hl : zs.length ≤ 100000000) :
    Calls Try.prog 32 #[.pointer (some ⟨p, 0, none⟩)] w fun e w' => e = .returned (.int .i64 (if zeros zs then 0 else 2)) ∧ w' = w := by
  obtain ⟨J, a, c, h⟩ := h
  obtain ⟨c0, c1, c2, c3⟩ := h.cells
  have HC := contains_any w _ zs h.lies hl
  clear h
  cases hz : zeros zs with
  | true =>
    rw [hz] at HC
    go_enter Try.func32, Try.ntmps32
    go_wp2_with fail
    refine HC.mono ?_
    rintro e w1 ⟨rfl, rfl⟩
    go_wp2
    go_ret
    exact ⟨rfl, rfl⟩
  | false =>
    rw [hz] at HC
    go_enter Try.func32, Try.ntmps32
    go_wp2_with fail
    refine HC.mono ?_
    rintro e w1 ⟨rfl, rfl⟩
    go_wp2
    go_ret
    exact ⟨rfl, rfl⟩

/-- What End tells. -/
def endS (s : RS) : Int := if s.2 ≠ 0 then s.2 else if zeros s.1 then 0 else 2

theorem end_any {w : World} {p : Nat} {F : Nat → Prop} {s : RS} (h : Rea w p F s.1 s.2) (hl : s.1.length ≤ 100000000) :
    Calls Try.prog 32 #[.pointer (some ⟨p, 0, none⟩)] w fun e w' => e = .returned (.int .i64 (endS s)) ∧ w' = w := by
  unfold endS
  obtain ⟨zs, er⟩ := s
  simp only at h hl ⊢
  by_cases he : er = 0
  · subst he
    simpa using end_ok h hl
  · simpa [he] using end_failed h he

end Go.Proofs.Ytlcbfdbnjohicaa.st
