/- Items told from another one on: who goes where stays. -/
import Derived.Test.YtkaohjlnlgennaaPlh
namespace Go.Proofs.Ytkaohjlnlgennaa.st
open Go.ChangeShapes Go.WideShapes Go.ChangeAt Go.RowKit Go.Proofs.Ytkaohjlnlgennaa.hp Go.Proofs.Ytkaohjlnlgennaa.tm Go.Proofs.Ytkaohjlnlgennaa.ev
set_option linter.unusedVariables false
set_option linter.unusedSimpArgs false

def rot {α : Type} (l : List α) (r : Nat) : List α := l.drop r ++ l.take r

theorem rot_len {α : Type} (l : List α) (r : Nat) : (rot l r).length = l.length := by
  unfold rot
  rw [List.length_append, List.length_drop, List.length_take]
  omega

theorem rot_get {α : Type} (l : List α) (d : α) (r k n : Nat) (hn : l.length = n) (hr : r < n) (hk : k < n) : (rot l r).getD k d = l.getD ((k + r) % n) d := by
  unfold rot
  rw [List.getD_eq_getElem?_getD, List.getD_eq_getElem?_getD, List.getElem?_append, List.length_drop]
  by_cases h : k < l.length - r
  · rw [if_pos h, List.getElem?_drop, Nat.mod_eq_of_lt (by omega)]
    congr 2
    omega
  · have e : (k + r) % n = k - (n - r) := by
      have h1 : k + r = (k - (n - r)) + n := by omega
      rw [h1, Nat.add_mod_right, Nat.mod_eq_of_lt (by omega)]
    rw [if_neg h, e, List.getElem?_take, if_pos (by omega), hn]

theorem rot_perm {α : Type} (l : List α) (r : Nat) : (rot l r).Perm l := by
  unfold rot
  have := List.perm_append_comm (l₁ := l.drop r) (l₂ := l.take r)
  rw [List.take_append_drop] at this
  exact this

theorem may_rot {h z : Int} {ls : List Int} {its : List (Int × Int)} (hm : mayB h z ls its = true) (r : Nat) : mayB h z ls (rot its r) = true := by
  have hi := mayB_iff.1 hm
  have hp := rot_perm its r
  refine mayB_iff.2 ⟨hi.1, hi.2.1, hi.2.2.1, ?_, ?_⟩
  · unfold okI
    rw [List.all_eq_true]
    intro x hx
    have := hi.2.2.2.1
    unfold okI at this
    rw [List.all_eq_true] at this
    exact this x (hp.mem_iff.1 hx)
  · exact (hp.map (fun i : Int × Int => i.1)).nodup_iff.2 hi.2.2.2.2

theorem planA_rot {h z : Int} {ls : List Int} {its : List (Int × Int)} (hm : mayB h z ls its = true) (r : Nat) : planA h z ls (rot its r) = planA h z ls its := by
  have hr := may_rot hm r
  rw [planA_yes hm, planA_yes hr, planF_same h z ls (rot its r) its (mayB_iff.1 hr).2.2.2.2 (mayB_iff.1 hm).2.2.2.2 (fun i => (rot_perm its r).mem_iff)]

theorem tmod_turn {t : Int} (ht : ¬ t < 0) (n : Nat) : t.tmod (n : Int) = ((t.toNat % n : Nat) : Int) := by
  obtain ⟨T, rfl⟩ : ∃ T : Nat, t = T := ⟨t.toNat, by omega⟩
  rw [Int.toNat_natCast]
  rfl

theorem tmod_nat (a b n : Nat) : ((a : Int) + (b : Int)).tmod (n : Int) = (((a + b) % n : Nat) : Int) := rfl

end Go.Proofs.Ytkaohjlnlgennaa.st
