/- What Plan answers, by its facts: for the laws. -/
import Derived.Test.YtkaohjlnlgennaaArg
namespace Go.Proofs.Ytkaohjlnlgennaa.st
open Go.ChangeShapes Go.WideShapes Go.ChangeAt Go.RowKit Go.Proofs.Ytkaohjlnlgennaa.hp Go.Proofs.Ytkaohjlnlgennaa.tm Go.Proofs.Ytkaohjlnlgennaa.ev
set_option linter.unusedVariables false
set_option linter.unusedSimpArgs false

theorem mayB_iff {h z : Int} {ls : List Int} {its : List (Int × Int)} : mayB h z ls its = true ↔ okH h = true ∧ (1 ≤ z ∧ z ≤ 4) ∧ (∀ l ∈ ls, okL h l = true) ∧ okI h its = true ∧ (ids its).Nodup := by
  unfold mayB mayE okZ
  simp [and_assoc]

theorem planA_yes {h z : Int} {ls : List Int} {its : List (Int × Int)} (hm : mayB h z ls its = true) : planA h z ls its = ((uni h ls).map fun b => (b, (planF h z ls its).1 b), (planF h z ls its).2) := by
  unfold planA
  rw [if_pos hm]

theorem planA_no {h z : Int} {ls : List Int} {its : List (Int × Int)} (hm : mayB h z ls its = false) : planA h z ls its = ([], []) := by
  unfold planA
  rw [if_neg (by rw [hm]; decide)]

theorem uni_length (h : Int) (ls : List Int) : (uni h ls).length ≤ 127 := by
  cases ha : ls.all (okL h)
  · rw [uni_no ha]
    simp
  · rw [uni_yes ha]
    have := rise_length (wys h ls) (bks h).toNat
    have := bks_bounds h
    omega

theorem planA_len (h z : Int) (ls : List Int) (its : List (Int × Int)) : (planA h z ls its).1.length ≤ 127 := by
  cases hm : mayB h z ls its
  · rw [planA_no hm]
    simp
  · rw [planA_yes hm]
    simpa using uni_length h ls

theorem planA_d (h z : Int) (ls : List Int) (its : List (Int × Int)) : ∀ p ∈ (planA h z ls its).1, p.2.length ≤ 4 := by
  cases hm : mayB h z ls its
  · rw [planA_no hm]
    simp
  · rw [planA_yes hm]
    intro p hp
    obtain ⟨b, hb, rfl⟩ := List.mem_map.1 hp
    have := plan_len (mayB_mayP hm) b hb
    have := (mayB_iff.1 hm).2.1
    simp only
    omega

theorem planA_held {h z : Int} {ls : List Int} {its : List (Int × Int)} (hm : mayB h z ls its = true) : held (planA h z ls its).1 + (planA h z ls its).2.length = its.length := by
  have := plan_sum (mayB_mayP hm)
  rw [planA_yes hm]
  unfold held
  rw [List.map_map]
  exact this

theorem planA_left (h z : Int) (ls : List Int) (its : List (Int × Int)) : (planA h z ls its).2.length ≤ its.length := by
  cases hm : mayB h z ls its
  · rw [planA_no hm]
    simp
  · have := planA_held hm
    omega

theorem may_more {h z : Int} {ls : List Int} {its : List (Int × Int)} (hm : mayB h z ls its = true) (hz : z < 4) : mayB h (z + 1) ls its = true := by
  have := mayB_iff.1 hm
  exact mayB_iff.2 ⟨this.1, ⟨by omega, by omega⟩, this.2.2⟩

theorem planA_more {h z : Int} {ls : List Int} {its : List (Int × Int)} (hm : mayB h z ls its = true) (hz : z < 4) : (planA h (z + 1) ls its).2.length ≤ (planA h z ls its).2.length := by
  rw [planA_yes hm, planA_yes (may_more hm hz)]
  exact plan_more (mayB_mayP hm) (z + 1) (by omega)

theorem may_nil {h z : Int} {ls : List Int} {its : List (Int × Int)} (hm : mayB h z ls its = true) : mayB h z [] its = true := by
  have := mayB_iff.1 hm
  exact mayB_iff.2 ⟨this.1, this.2.1, by simp, this.2.2.2⟩

theorem planA_none {h z : Int} {ls : List Int} {its : List (Int × Int)} (hm : mayB h z ls its = true) : planA h z [] its = ([], sortI (ids its)) := by
  have hn := may_nil hm
  have e := plan_none (mayB_mayP hn)
  have hu : uni h [] = [] := by
    apply List.eq_nil_iff_forall_not_mem.2
    intro b hb
    obtain ⟨l, hl, _⟩ := (uni_mem (by simp) b).1 hb
    simp at hl
  rw [planA_yes hn, e, hu]
  rfl

theorem fv_len {xs : List FV} {h z : Int} {ls : List Int} {its : List (Int × Int)} (he : abs xs = (planA h z ls its).1) : xs.length ≤ 127 ∧ ∀ x ∈ xs, x.d.length ≤ 4 := by
  refine ⟨?_, fun x hx => ?_⟩
  · rw [← abs_len, he]
    exact planA_len h z ls its
  · have : x.fl ∈ abs xs := List.mem_map.2 ⟨x, hx, rfl⟩
    rw [he] at this
    exact planA_d h z ls its _ this

end Go.Proofs.Ytkaohjlnlgennaa.st
