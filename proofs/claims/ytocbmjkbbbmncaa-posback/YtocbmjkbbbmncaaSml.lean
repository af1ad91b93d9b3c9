/- Contracts of the program's small functions: has, maySet, Len, and of the law's Place. -/
import Derived.Test.YtocbmjkbbbmncaaRows
import Derived.Test.YtocbmjkbbbmncaaFlt
import Derived.ProofKit
import Derived.OpenShut
import Derived.WalkLawsBesides
import Derived.WalkSpells
import Derived.Deep.QuietTactic
import Derived.BigQuiet
import Derived.RegionTactic
import Derived.BigRegion
import Derived.Deep.RegionWith
import Derived.ChangeAlike
import Derived.Handy
import Derived.Laws.AppendOwnNone
import Derived.Deep.Cut
import Derived.Deep.CutRange
namespace Go.Proofs.Ytocbmjkbbbmncaa.st
open Go.ChangeShapes Go.WideShapes Go.ChangeAt Go.RowKit Go.Proofs.Ytocbmjkbbbmncaa.hp
set_option linter.unusedVariables false

theorem info3 : (Try.prog.info? 3).map (fun i => (i.zero, i.size, i.bytes)) = some (some (.int .i64 0), 1, 8) := by kernel_rfl
theorem info4 : (Try.prog.info? 4).map (fun i => (i.zero, i.size, i.bytes)) = some (some (.bool false), 1, 1) := by kernel_rfl
theorem info33 : (Try.prog.info? 33).map (fun i => (i.zero, i.size, i.bytes)) = some (some (nv 0 0), 2, 16) := by kernel_rfl
theorem info39 : (Try.prog.info? 39).map (fun i => (i.zero, i.size, i.bytes)) = some (some (nv 0 0), 2, 16) := by kernel_rfl
theorem info58 : (Try.prog.info? 58).map (fun i => (i.size, i.bytes)) = some (3, 24) := by kernel_rfl
theorem info65 : (Try.prog.info? 65).map (fun i => (i.size, i.bytes)) = some (3, 24) := by kernel_rfl

/-- Is it an id? -/
def isId (n : Nat) (d : Int) : Bool := decide (0 ≤ d ∧ d < n)
/-- May it be Set? -/
def may (n : Nat) (d l t : Int) : Bool := decide (0 ≤ d ∧ d < n ∧ 0 ≤ l ∧ 0 ≤ t)

abbrev pt (p : Nat) : Value := .pointer (some ⟨p, 0, none⟩)

theorem has_any {p : Nat} {pv cv : Value} {ps : List (Int × Int)} {ch : List Bool} {w : World} (h : Mp 63 33 p pv cv ps ch w) (d : Int) :
    Calls Try.prog 29 #[pt p, .int .i64 d] w fun e w' => e = .returned (.bool (isId ps.length d)) ∧ w' = w := by
  obtain ⟨c0, c1, _, hp⟩ := h.cells
  obtain ⟨⟨a, c, rfl⟩, _⟩ := h.shape
  obtain ⟨n, hn⟩ : ∃ n, ps.length = n := ⟨_, rfl⟩
  rw [hn] at c0 ⊢
  clear h hn c1
  by_cases h0 : 0 ≤ d
  · by_cases h1 : d < n
    · have hr : isId n d = true := by unfold isId; simp; omega
      rw [hr]
      clear hr
      go_enter Try.func29, Try.ntmps29
      go_wp2
      go_ret
      exact ⟨rfl, rfl⟩
    · have hr : isId n d = false := by unfold isId; simp; omega
      rw [hr]
      clear hr
      have h2 : (n : Int) ≤ d := by omega
      go_enter Try.func29, Try.ntmps29
      go_wp2
      go_ret
      exact ⟨rfl, rfl⟩
  · have hr : isId n d = false := by unfold isId; simp; omega
    rw [hr]
    clear hr
    have h2 : d < 0 := by omega
    go_enter Try.func29, Try.ntmps29
    go_wp2
    go_ret
    exact ⟨rfl, rfl⟩

theorem maySet_any {p : Nat} {pv cv : Value} {ps : List (Int × Int)} {ch : List Bool} {w : World} (h : Mp 63 33 p pv cv ps ch w) (d l t : Int) :
    Calls Try.prog 28 #[pt p, .int .i64 d, nv l t] w fun e w' => e = .returned (.bool (may ps.length d l t)) ∧ Chg no w w' := by
  have HH := has_any (h.same ((Chg.refl no w).alloc (.cells #[.int .i64 l, .int .i64 t] 33))) d
  have K : Chg no w (w.alloc (.cells #[.int .i64 l, .int .i64 t] 33)) := (Chg.refl no w).alloc _
  obtain ⟨n, hn⟩ : ∃ n, ps.length = n := ⟨_, rfl⟩
  rw [hn] at HH ⊢
  clear h hn
  by_cases hd : 0 ≤ d ∧ d < n
  · have hr : isId n d = true := by unfold isId; simp; omega
    rw [hr] at HH
    have hc : (0 ≤ l ∧ 0 ≤ t ∧ may n d l t = true) ∨ (0 ≤ l ∧ t < 0 ∧ may n d l t = false) ∨ (l < 0 ∧ may n d l t = false) := by
      unfold may
      simp
      omega
    clear hr hd
    rcases hc with ⟨h1, h2, h3⟩ | ⟨h1, h2, h3⟩ | ⟨h1, h3⟩
    all_goals
      rw [h3]
      clear h3
      go_enter Try.func28, Try.ntmps28
      go_wp2_with fail
      refine HH.mono ?_
      rintro e w1 ⟨rfl, rfl⟩
      clear HH
      go_wp2
      go_ret
      exact ⟨by first | rfl | (apply ret_bool; simp; omega), K⟩
  · have hr : isId n d = false := by unfold isId; simp; omega
    rw [hr] at HH
    have h3 : may n d l t = false := by unfold may; simp; omega
    rw [h3]
    clear h3 hr hd
    go_enter Try.func28, Try.ntmps28
    go_wp2_with fail
    refine HH.mono ?_
    rintro e w1 ⟨rfl, rfl⟩
    clear HH
    go_wp2
    go_ret
    exact ⟨rfl, K⟩

theorem len_any {p : Nat} {pv cv : Value} {ps : List (Int × Int)} {ch : List Bool} {w : World} (h : Mp 63 33 p pv cv ps ch w) :
    Calls Try.prog 21 #[pt p] w fun e w' => e = .returned (.int .i64 ps.length) ∧ w' = w := by
  obtain ⟨c0, c1, _, hp⟩ := h.cells
  obtain ⟨⟨a, c, rfl⟩, _⟩ := h.shape
  clear h c1
  go_enter Try.func21, Try.ntmps21
  go_wp2
  go_ret
  exact ⟨rfl, rfl⟩

theorem place_any (w : World) (l t : Int) : Calls Try.prog 14 #[nv l t] w fun e w' => e = .returned (nv l t) ∧ Chg no w w' := by
  go_enter Try.func14, Try.ntmps14
  go_wp2
  have hres : Try.f14.results = #[.cell 2 39] := by kernel_rfl
  refine bodyPost_ret (v := nv l t) ?_ rfl ⟨rfl, ?_⟩
  · simp only [results, hres]
    go_simp
  · exact ((Chg.refl no w).alloc _).alloc _

end Go.Proofs.Ytocbmjkbbbmncaa.st
