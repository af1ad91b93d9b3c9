/- Two sources side by side: the program's and the document's. -/
import Derived.Test.YthmpkalalceapaaFst
namespace Go.Proofs.Ythmpkalalceapaa.st
open Go.ChangeShapes Go.WideShapes Go.ChangeAt Go.RowKit Go.Proofs.Ythmpkalalceapaa.hp Go.Proofs.Ythmpkalalceapaa.dg
set_option linter.unusedVariables false

/-- The program's source at p has come to c, the document's at q to d; both lie in memory that is new since w. -/
structure N2 (w : World) (p q : Nat) (g c d m : Int) (wr : World) : Prop where
  sp : Src wr p 47 g c m
  sq : Src wr q 42 g d m
  chg : Chg no w wr
  pn : w.heap.size ≤ p
  qn : w.heap.size ≤ q
  pq : p ≠ q

theorem N2.same {w wr w' : World} {p q : Nat} {g c d m : Int} (h : N2 w p q g c d m wr) (k : Chg no wr w') : N2 w p q g c d m w' :=
  ⟨h.sp.chg k id, h.sq.chg k id, h.chg.then k, h.pn, h.qn, h.pq⟩

/-- What is told where it has come to c. -/
def tg (g c m : Int) : Int := if c = m then 0 else g
def tc (c m : Int) : Int := if c = m then 0 else c
def te (c m : Int) : Int := if c = m then 11 else 0
def tn (c m : Int) : Int := if c = m then c else c + 1

theorem N2.next {w wr : World} {p q : Nat} {g c m : Int} (h : N2 w p q g c c m wr) (h0 : 0 ≤ c) (h1 : c ≤ m) (h2 : m ≤ 1099511627776) :
    Calls Try.prog 20 #[.pointer (some ⟨p, 0, none⟩)] wr fun e w' => e = .returned (.tuple #[nv (tg g c m) (tc c m), .int .i64 (te c m)]) ∧ N2 w p q g (tn c m) c m w' := by
  unfold tg tc te tn
  by_cases hc : c = m
  · subst hc
    refine (next_end h.sp h0 h2).mono ?_
    rintro e w' ⟨rfl, k⟩
    simp only [if_true]
    exact ⟨trivial, h.same k⟩
  · refine (next_go h.sp h0 (by omega) h2).mono ?_
    rintro e w' ⟨rfl, s, k⟩
    simp only [if_neg hc]
    exact ⟨trivial, s, h.sq.chg k (fun e => h.pq e.symm), h.chg.trans k (fun b hb => .inr (by rw [hb]; exact h.pn)), h.pn, h.qn, h.pq⟩

theorem N2.rnext {w wr : World} {p q : Nat} {g c d m : Int} (h : N2 w p q g d c m wr) (h0 : 0 ≤ c) (h1 : c ≤ m) (h2 : m ≤ 1099511627776) :
    Calls Try.prog 21 #[.pointer (some ⟨q, 0, none⟩)] wr fun e w' => e = .returned (.tuple #[nv (tg g c m) (tc c m), .int .i64 (te c m)]) ∧ N2 w p q g d (tn c m) m w' ∧ Chg (fun k => k = q) wr w' := by
  unfold tg tc te tn
  by_cases hc : c = m
  · subst hc
    refine (rnext_end h.sq).mono ?_
    rintro e w' ⟨rfl, k⟩
    simp only [if_true]
    exact ⟨trivial, h.same k, k.of_no _⟩
  · refine (rnext_go h.sq h0 (by omega) h2).mono ?_
    rintro e w' ⟨rfl, s, k⟩
    simp only [if_neg hc]
    exact ⟨trivial, ⟨h.sp.chg k (fun e => h.pq e), s, h.chg.trans k (fun b hb => .inr (by rw [hb]; exact h.qn)), h.pn, h.qn, h.pq⟩, k⟩

theorem tn_in {c m : Int} (h0 : 0 ≤ c) (h1 : c ≤ m) : 0 ≤ tn c m ∧ tn c m ≤ m := by
  unfold tn
  split <;> omega

end Go.Proofs.Ythmpkalalceapaa.st
