/- What is asked of both stashes behind each operation: the contracts, in whatever world that only grew. -/
import Derived.Test.YtedhlidmmmlemaaPly
import Derived.Test.YtedhlidmmmlemaaSma
import Derived.Test.YtedhlidmmmlemaaRsm
namespace Go.Proofs.Ytedhlidmmmlemaa.st
open Go.ChangeShapes Go.WideShapes Go.ChangeAt Go.RowKit Go.Proofs.Ytedhlidmmmlemaa.hp
set_option linter.unusedVariables false
set_option linter.unusedSimpArgs false

section
variable {w wr w' : World} {p q m m' Q : Nat} {L M : List Bk} {o : Obj}

theorem Alb.tHas (h : Alb w p q L M m m' Q o wr) (id : Int) (H : Bool) (hH : hasL L id = H) (W : World) (k : Chg no wr W) :
    Calls Try.prog 18 #[pt p, .int .i64 id] W fun e w' => e = .returned (.bool H) ∧ Chg no wr w' := by
  subst hH
  refine ((h.same k).has id).mono ?_
  rintro e w' ⟨rfl, _, k'⟩
  exact ⟨rfl, k.then k'⟩

theorem Alb.tLen (h : Alb w p q L M m m' Q o wr) (n : Nat) (hn : L.length = n) (W : World) (k : Chg no wr W) :
    Calls Try.prog 19 #[pt p] W fun e w' => e = .returned (.int .i64 (n : Nat)) ∧ w' = W := by
  subst hn
  exact (h.same k).len

theorem Alb.tMost (h : Alb w p q L M m m' Q o wr) (W : World) (k : Chg no wr W) :
    Calls Try.prog 20 #[pt p] W fun e w' => e = .returned (.int .i64 (m : Nat)) ∧ w' = W := (h.same k).most

theorem Alb.tIds (h : Alb w p q L L m m' Q o wr) (n : Nat) (hn : L.length = n) (W : World) (k : Chg no wr W) :
    Calls Try.prog 22 #[pt p] W fun e w1 => ∃ a c, e = .returned (.slice a n c) ∧ Chg no wr w1 ∧ Calls Try.prog 23 #[pt q] w1 fun e w2 => ∃ b d, e = .returned (.slice b n d) ∧ Chg no wr w2 ∧
      Calls Try.prog 21 #[.slice a n c, .slice b n d] w2 fun e w3 => e = .returned (.bool true) ∧ Chg no wr w3 := by
  subst hn
  have h64 : L.length ≤ 64 := by
    obtain ⟨F, G, h1, _⟩ := h
    exact h1.ok.1.len
  refine ((h.same k).ids).mono ?_
  rintro e w1 ⟨a, c, rfl, l1, A1, k1⟩
  refine ⟨a, c, rfl, k.then k1, ?_⟩
  refine A1.rids.mono ?_
  rintro e w2 ⟨b, d, rfl, l2, A2, k2⟩
  refine ⟨b, d, rfl, (k.then k1).then k2, ?_⟩
  have := ints_any w2 _ _ _ _ _ _ _ _ (Lies.later l1 k2) l2 (by simp) (by simp) (by omega) (by omega)
  rw [decide_eq_true (rfl : L.map (·.1) = L.map (·.1))] at this
  refine this.mono ?_
  rintro e w3 ⟨rfl, k3⟩
  exact ⟨rfl, ((k.then k1).then k2).then k3⟩

theorem Alb.tAll (h : Alb w p q L L m m' Q o wr) (g0 : Option Addr) (n gc : Nat) (ys : List BV) (hy : abs ys = L) (hs : ∀ W, Chg no wr W → Bks W (.slice g0 n gc) ys) (W : World) (k : Chg no wr W) :
    Calls Try.prog 26 #[pt p] W fun e w1 => ∃ a l c, e = .returned (.slice a l c) ∧ Chg no wr w1 ∧ Calls Try.prog 25 #[.slice a l c] w1 fun e w2 => ∃ v, e = .returned v ∧ Chg no wr w2 ∧
      Calls Try.prog 24 #[v, .slice g0 n gc] w2 fun e w3 => e = .returned (.bool true) ∧ Chg no wr w3 := by
  have h64 : L.length ≤ 64 := by
    obtain ⟨F, G, h1, _⟩ := h
    exact h1.ok.1.len
  refine ((h.same k).all).mono ?_
  rintro e w1 ⟨a, c, zs, rfl, f1, f2, A1, k1⟩
  have hz : zs.length ≤ 100000 := by have := abs_len zs; rw [f1] at this; omega
  have hyl : ys.length ≤ 100000 := by have := abs_len ys; rw [hy] at this; omega
  refine ⟨a, _, c, rfl, k.then k1, ?_⟩
  refine (plain_any w1 _ zs f2 hz).mono ?_
  rintro e w2 ⟨v, rfl, N2⟩
  have K2 := (k.then k1).then N2.chg
  refine ⟨v, rfl, K2, ?_⟩
  have := rsame_any w2 _ _ zs ys N2.bks (hs w2 K2) hz hyl
  rw [show sameL (abs zs) (abs ys) = true by rw [f1, hy]; exact decide_eq_true rfl] at this
  refine this.mono ?_
  rintro e w3 ⟨rfl, k3⟩
  exact ⟨rfl, K2.then k3⟩
end

end Go.Proofs.Ytedhlidmmmlemaa.st
