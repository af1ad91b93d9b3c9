/- Twice: is one named twice? -/
import Derived.Test.YtallblnkgmioeaaFli
namespace Go.Proofs.Ytallblnkgmioeaa.st
open Go.ChangeShapes Go.WideShapes Go.ChangeAt Go.RowKit Go.Proofs.Ytallblnkgmioeaa.hp Go.Proofs.Ytallblnkgmioeaa.bt
set_option linter.unusedVariables false
set_option linter.unusedSimpArgs false

theorem nodup_snoc {l : List Int} {u : Int} (h : l.Nodup) (hu : l.contains u = false) : (l ++ [u]).Nodup := by
  rw [List.nodup_append]
  refine ⟨h, by simp, fun x hx y hy => ?_⟩
  simp at hy
  subst hy
  rintro rfl
  rw [List.contains_iff_mem.2 hx] at hu
  cases hu

theorem not_nodup {l : List Int} {j : Nat} (hj : j < l.length) (h : (l.take j).contains (l.getD j 0) = true) : ¬ l.Nodup := fun hn => by
  have h2 : (l.take (j + 1)).Nodup := (List.take_sublist _ _).nodup hn
  rw [take_next l 0 j hj, List.nodup_append] at h2
  exact h2.2.2 _ (List.contains_iff_mem.1 h) _ (by simp) rfl

set_option maxRecDepth 100000 in
set_option maxHeartbeats 2000000 in
theorem twice_any {K : Nat → Prop} (w : World) (b : Option Addr) (d : Nat) (l : List Int) (hl : Lies K w (.slice b l.length d) (l.map (Value.int .i64))) (hcap : l.length ≤ d) (hll : l.length ≤ 100000) :
    Calls Try.prog 24 #[.slice b l.length d] w fun e w' => e = .returned (.bool (!decide l.Nodup)) ∧ Chg no w w' := by
  have HL : Hid (∀ W, Chg no w W → Lies (fun _ => True) W (.slice b l.length d) (l.map (Value.int .i64))) := fun W k => (hl.chg k (fun _ _ h => h)).mono (fun _ _ => trivial)
  obtain ⟨n, hn⟩ : ∃ n, l.length = n := ⟨_, rfl⟩
  have HN : Hid (l.length = n) := hn
  obtain ⟨ans, hans⟩ : ∃ r, (!decide l.Nodup) = r := ⟨_, rfl⟩
  have HA : Hid ((!decide l.Nodup) = ans) := hans
  simp only [hn, hans] at HL hll hcap ⊢
  have hni : (n : Int) ≤ 100000 := by omega
  clear hn hans hl
  go_enter Try.func24, Try.ntmps24
  go_wp2_with fail
  go_loopw [3] (fun i wr => ∃ j : Nat, j ≤ n ∧ i = .int .i64 (j : Int) ∧ (l.take j).Nodup ∧ Chg no w wr) (fun i _ => n - (intOf i).toNat)
  case atStart => exact ⟨0, by omega, rfl, by simp, Chg.refl no w⟩
  case round =>
    obtain ⟨j, hj, rfl, hnd, hC⟩ := hrel
    have HC : Hid (Chg no w wr) := hC
    have HD : Hid ((l.take j).Nodup) := hnd
    clear hnd
    by_cases hjn : j < n
    · have hji : (j : Int) < n := by omega
      have hlw := HL.out wr hC
      obtain ⟨y, rfl, hy⟩ := lies_at hlw j (by rw [HN.out]; exact hjn)
      obtain ⟨u, hu⟩ : ∃ u, l.getD j 0 = u := ⟨_, rfl⟩
      have HU : Hid (l.getD j 0 = u) := hu
      rw [hu] at hy
      have HT : Hid (l.take (j + 1) = l.take j ++ [u]) := by show _ = _; rw [take_next l 0 j (by rw [HN.out]; exact hjn), hu]
      have hcj : (j : Int) ≤ d := by omega
      have hfr := lies_front hlw HN.out j hj (by simp)
      clear hu hC
      cases hc : (l.take j).contains u
      · have HQ : Hid (∀ q, Calls Try.prog 23 #[.slice (some y) j d, .int .i64 u] (wr.drewN q) fun e w' => e = .returned (.bool false) ∧ w' = wr.drewN q) := fun q => by
          have := has_any (wr.drewN q) _ _ u (hfr.chg ((Chg.refl no wr).drewN q) (fun _ _ h => h)) (by rw [List.length_take]; omega)
          rw [hc] at this
          exact this
        have HD2 : Hid ((l.take (j + 1)).Nodup) := by
          show List.Nodup _
          rw [HT.out]
          exact nodup_snoc HD.out hc
        clear hlw hfr hc
        go_wp2_with fail
        go_quiet ((go_at_call 23; exact Calls.quiet_of_same (HQ.out _)))
        go_wp2
        go_roundw
        case rel => exact ⟨j + 1, by omega, by go_num, HD2.out, HC.out.drewN _⟩
        case measure => simp [intOf]; omega
      · have HQ : Hid (∀ q, Calls Try.prog 23 #[.slice (some y) j d, .int .i64 u] (wr.drewN q) fun e w' => e = .returned (.bool true) ∧ w' = wr.drewN q) := fun q => by
          have := has_any (wr.drewN q) _ _ u (hfr.chg ((Chg.refl no wr).drewN q) (fun _ _ h => h)) (by rw [List.length_take]; omega)
          rw [hc] at this
          exact this
        have e : ans = true := by
          rw [← HA.out, decide_eq_false (not_nodup (by rw [HN.out]; exact hjn) (by rw [HU.out]; exact hc))]
          rfl
        subst e
        clear hlw hfr hc HA
        go_wp2_with fail
        go_quiet ((go_at_call 23; exact Calls.quiet_of_same (HQ.out _)))
        go_wp2
        go_ret
        exact ⟨rfl, HC.out.drewN _⟩
    · obtain rfl : j = n := by omega
      have hji : ¬ ((j : Int) < j) := by omega
      have e : ans = false := by
        have h := HD.out
        rw [← HN.out, List.take_length] at h
        rw [← HA.out, decide_eq_true h]
        rfl
      subst e
      go_wp2
      go_ret
      exact ⟨rfl, HC.out⟩

end Go.Proofs.Ytallblnkgmioeaa.st
