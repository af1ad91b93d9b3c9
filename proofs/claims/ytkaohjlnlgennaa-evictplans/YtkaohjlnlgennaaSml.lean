/- Contracts of the small functions: heights, leaves, buckets, the length of a number in bits. -/
import Derived.Test.YtkaohjlnlgennaaRows
import Derived.Test.YtkaohjlnlgennaaHeap
import Derived.Test.YtkaohjlnlgennaaTrm
import Derived.ProofKit
import Derived.OpenShut
import Derived.WalkLawsBesides
import Derived.WalkSpells
import Derived.Deep.QuietTactic
import Derived.BigQuiet
import Derived.RegionTactic
import Derived.BigRegion
import Derived.Deep.RegionWith
import Derived.ChangeAlike
import Derived.Handy
import Derived.Laws.BytesArg
import Derived.Laws.AppendOwnNone
import Derived.Laws.BitsAllLaws
import Derived.Laws.OwnMore
import Derived.Deep.Cut
import Derived.Deep.CutRange
namespace Go.Proofs.Ytkaohjlnlgennaa.st
open Go.ChangeShapes Go.WideShapes Go.ChangeAt Go.RowKit Go.Proofs.Ytkaohjlnlgennaa.hp Go.Proofs.Ytkaohjlnlgennaa.tm
set_option linter.unusedVariables false

theorem info3 : (Try.prog.info? 3).map (fun i => (i.zero, i.size, i.bytes)) = some (some (.int .i64 0), 1, 8) := by kernel_rfl
theorem info4 : (Try.prog.info? 4).map (fun i => (i.zero, i.size, i.bytes)) = some (some (.bool false), 1, 1) := by kernel_rfl

theorem rmay_any (w : World) (h : Int) : Calls Try.prog 38 #[.int .i64 h] w fun e w' => e = .returned (.bool (okH h)) ∧ w' = w := by
  have hc : h < 0 ∨ (0 ≤ h ∧ h ≤ 6) ∨ (0 ≤ h ∧ 6 < h) := by omega
  rcases hc with h1 | ⟨h1, h2⟩ | ⟨h1, h2⟩
  all_goals
    go_enter Try.func38, Try.ntmps38
    go_wp2
    go_ret
    refine ⟨ret_bool ?_, rfl⟩
    simp [okH]
    try omega

theorem may_any (w : World) (h : Int) : Calls Try.prog 45 #[.int .i64 h] w fun e w' => e = .returned (.bool (okH h)) ∧ w' = w := by
  have hc : h < 0 ∨ (0 ≤ h ∧ h ≤ 6) ∨ (0 ≤ h ∧ 6 < h) := by omega
  rcases hc with h1 | ⟨h1, h2⟩ | ⟨h1, h2⟩
  all_goals
    go_enter Try.func45, Try.ntmps45
    go_wp2
    go_ret
    refine ⟨ret_bool ?_, rfl⟩
    simp [okH]
    try omega

theorem h_cases {h : Int} (hk : okH h = true) : h = 0 ∨ h = 1 ∨ h = 2 ∨ h = 3 ∨ h = 4 ∨ h = 5 ∨ h = 6 := by
  have := (okH_iff h).1 hk
  omega

theorem buckets_any (w : World) (h : Int) : Calls Try.prog 40 #[.int .i64 h] w fun e w' => e = .returned (.int .i64 (bks h)) ∧ w' = w := by
  have HM := may_any w h
  cases hk : okH h
  · rw [hk] at HM
    go_enter Try.func40, Try.ntmps40
    go_wp2_with fail
    refine HM.mono ?_
    rintro e w1 ⟨rfl, rfl⟩
    go_wp2
    go_ret
    exact ⟨ret_int (by simp [bks, hk]), rfl⟩
  · rw [hk] at HM
    rcases h_cases hk with rfl | rfl | rfl | rfl | rfl | rfl | rfl
    all_goals
      clear hk
      go_enter Try.func40, Try.ntmps40
      go_wp2_with fail
      refine HM.mono ?_
      rintro e w1 ⟨rfl, rfl⟩
      go_wp2
      go_ret
      exact ⟨ret_int (by decide +kernel), rfl⟩

theorem rbuckets_any (w : World) (h : Int) : Calls Try.prog 52 #[.int .i64 h] w fun e w' => e = .returned (.int .i64 (bks h)) ∧ w' = w := by
  have HM := rmay_any w h
  cases hk : okH h
  · rw [hk] at HM
    go_enter Try.func52, Try.ntmps52
    go_wp2_with fail
    refine HM.mono ?_
    rintro e w1 ⟨rfl, rfl⟩
    go_wp2
    go_ret
    exact ⟨ret_int (by simp [bks, hk]), rfl⟩
  · rw [hk] at HM
    rcases h_cases hk with rfl | rfl | rfl | rfl | rfl | rfl | rfl
    all_goals
      clear hk
      go_enter Try.func52, Try.ntmps52
      go_wp2_with fail
      refine HM.mono ?_
      rintro e w1 ⟨rfl, rfl⟩
      go_wp2
      go_ret
      exact ⟨ret_int (by decide +kernel), rfl⟩

theorem leaves_any (w : World) (h : Int) : Calls Try.prog 54 #[.int .i64 h] w fun e w' => e = .returned (.int .i64 (lvs h)) ∧ w' = w := by
  have HM := may_any w h
  cases hk : okH h
  · rw [hk] at HM
    go_enter Try.func54, Try.ntmps54
    go_wp2_with fail
    refine HM.mono ?_
    rintro e w1 ⟨rfl, rfl⟩
    go_wp2
    go_ret
    exact ⟨ret_int (by simp [lvs, hk]), rfl⟩
  · rw [hk] at HM
    rcases h_cases hk with rfl | rfl | rfl | rfl | rfl | rfl | rfl
    all_goals
      clear hk
      go_enter Try.func54, Try.ntmps54
      go_wp2_with fail
      refine HM.mono ?_
      rintro e w1 ⟨rfl, rfl⟩
      go_wp2
      go_ret
      exact ⟨ret_int (by decide +kernel), rfl⟩

theorem okL_eq (h l : Int) : okL h l = decide (0 ≤ l ∧ l < lvs h) := by
  unfold okL lvs
  by_cases hk : okH h = true
  · have := (okH_iff h).1 hk
    rw [if_pos hk]
    simp [this]
  · rw [if_neg hk]
    have : ¬ (0 ≤ h ∧ h ≤ 6) := fun e => hk ((okH_iff h).2 e)
    rw [decide_eq_false (by omega), decide_eq_false (by omega)]

theorem isLeaf_any (w : World) (h l : Int) : Calls Try.prog 41 #[.int .i64 h, .int .i64 l] w fun e w' => e = .returned (.bool (okL h l)) ∧ w' = w := by
  have HM := leaves_any w h
  rw [okL_eq]
  obtain ⟨n, hn⟩ : ∃ n, lvs h = n := ⟨_, rfl⟩
  rw [hn] at HM ⊢
  clear hn
  have hc : l < 0 ∨ (0 ≤ l ∧ l < n) ∨ (0 ≤ l ∧ n ≤ l) := by omega
  rcases hc with h1 | ⟨h1, h2⟩ | ⟨h1, h2⟩
  · go_enter Try.func41, Try.ntmps41
    go_wp2
    go_ret
    exact ⟨ret_bool (by simp; omega), rfl⟩
  all_goals
    go_enter Try.func41, Try.ntmps41
    go_wp2_with fail
    refine HM.mono ?_
    rintro e w1 ⟨rfl, rfl⟩
    go_wp2
    go_ret
    exact ⟨ret_bool (by simp; try omega), rfl⟩

theorem isBucket_any (w : World) (h l : Int) : Calls Try.prog 43 #[.int .i64 h, .int .i64 l] w fun e w' => e = .returned (.bool (okB h l)) ∧ w' = w := by
  have HM := buckets_any w h
  unfold okB
  obtain ⟨n, hn⟩ : ∃ n, bks h = n := ⟨_, rfl⟩
  rw [hn] at HM ⊢
  clear hn
  have hc : l < 0 ∨ (0 ≤ l ∧ l < n) ∨ (0 ≤ l ∧ n ≤ l) := by omega
  rcases hc with h1 | ⟨h1, h2⟩ | ⟨h1, h2⟩
  · go_enter Try.func43, Try.ntmps43
    go_wp2
    go_ret
    exact ⟨ret_bool (by simp; omega), rfl⟩
  all_goals
    go_enter Try.func43, Try.ntmps43
    go_wp2_with fail
    refine HM.mono ?_
    rintro e w1 ⟨rfl, rfl⟩
    go_wp2
    go_ret
    exact ⟨ret_bool (by simp; try omega), rfl⟩

end Go.Proofs.Ytkaohjlnlgennaa.st
