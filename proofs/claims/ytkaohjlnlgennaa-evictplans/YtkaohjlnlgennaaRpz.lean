/- The document's Plan, whatever it is asked. -/
import Derived.Test.YtkaohjlnlgennaaRpl
namespace Go.Proofs.Ytkaohjlnlgennaa.st
open Go.ChangeShapes Go.WideShapes Go.ChangeAt Go.RowKit Go.Proofs.Ytkaohjlnlgennaa.hp Go.Proofs.Ytkaohjlnlgennaa.tm Go.Proofs.Ytkaohjlnlgennaa.ev
set_option linter.unusedVariables false

theorem rplan_any {J K : Nat → Prop} (w : World) (h z : Int) (v iv : Value) (ls : List Int) (its : List (Int × Int)) (hv : Lies J w v (ls.map (Value.int .i64))) (hi : Lie K w iv its.length (its.flatMap f2)) (hl : ls.length ≤ 100000) (hil : its.length ≤ 100000) :
    Calls Try.prog 11 #[.int .i64 h, .int .i64 z, v, iv] w fun e w' => ∃ fv lv xs, e = .returned (.tuple #[fv, lv]) ∧ Fls w' fv xs ∧ abs xs = (planA h z ls its).1 ∧ Lies (Old w') w' lv ((planA h z ls its).2.map (Value.int .i64)) ∧ Chg no w w' := by
  cases hm : mayB h z ls its
  · have e : planA h z ls its = ([], []) := by unfold planA; rw [hm]; rfl
    rw [e]
    have HM := rmayPlan_any w h z v iv ls its hv hi hl hil
    rw [hm] at HM
    clear hv hi hm e
    go_enter Try.func11, Try.ntmps11
    go_wp2_with fail
    refine HM.mono ?_
    rintro e w1 ⟨rfl, c1⟩
    have HC : Hid (Chg no w w1) := c1
    clear HM c1
    go_wp2
    go_returns
    exact ⟨_, _, [], rfl, Fls.nil _, rfl, .inl ⟨rfl, rfl⟩, HC.out⟩
  · have e : planA h z ls its = ((uni h ls).map fun b => (b, (planF h z ls its).1 b), (planF h z ls its).2) := by
      unfold planA
      rw [hm]
      rfl
    rw [e]
    obtain ⟨H, rfl⟩ : ∃ H : Nat, h = H := ⟨h.toNat, by have := (okH_iff h).1 (mayB_mayP hm).1; omega⟩
    exact rplan_some w H z v iv ls its hv hi hl hil hm

end Go.Proofs.Ytkaohjlnlgennaa.st
