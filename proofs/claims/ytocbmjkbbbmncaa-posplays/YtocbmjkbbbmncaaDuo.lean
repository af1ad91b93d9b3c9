/- Two maps side by side. -/
import Derived.Test.YtocbmjkbbbmncaaArg
namespace Go.Proofs.Ytocbmjkbbbmncaa.st
open Go.ChangeShapes Go.WideShapes Go.ChangeAt Go.RowKit Go.Proofs.Ytocbmjkbbbmncaa.hp
set_option linter.unusedVariables false

/-- Both maps, made behind w, apart. -/
structure Duo (T E T' E' : TypeId) (w : World) (p : Nat) (pv cv : Value) (ps : List (Int × Int)) (ch : List Bool) (p' : Nat) (pv' cv' : Value) (ps' : List (Int × Int)) (ch' : List Bool) (wr : World) : Prop where
  a : Mp T E p pv cv ps ch wr
  b : Mp T' E' p' pv' cv' ps' ch' wr
  ap : ∀ k, Ft p pv cv k → ¬ Ft p' pv' cv' k
  na : ∀ k, Ft p pv cv k → w.heap.size ≤ k
  nb : ∀ k, Ft p' pv' cv' k → w.heap.size ≤ k
  chg : Chg no w wr

section
variable {T E T' E' : TypeId} {w wr w' : World} {p : Nat} {pv cv : Value} {ps qs : List (Int × Int)} {ch dh : List Bool} {p' : Nat} {pv' cv' : Value} {ps' : List (Int × Int)} {ch' : List Bool}

theorem Duo.same (h : Duo T E T' E' w p pv cv ps ch p' pv' cv' ps' ch' wr) (k : Chg no wr w') : Duo T E T' E' w p pv cv ps ch p' pv' cv' ps' ch' w' :=
  ⟨h.a.same k, h.b.same k, h.ap, h.na, h.nb, h.chg.then k⟩

/-- A call on the first. -/
theorem Duo.left (h : Duo T E T' E' w p pv cv ps ch p' pv' cv' ps' ch' wr) (m : Mp T E p pv cv qs dh w') (k : Chg (Ft p pv cv) wr w') : Duo T E T' E' w p pv cv qs dh p' pv' cv' ps' ch' w' :=
  ⟨m, h.b.chg k (fun j hj e => h.ap j e hj), h.ap, h.na, h.nb, new_chg h.chg k h.na⟩

/-- A call on the second. -/
theorem Duo.right (h : Duo T E T' E' w p pv cv ps ch p' pv' cv' ps' ch' wr) (m : Mp T' E' p' pv' cv' qs dh w') (k : Chg (Ft p' pv' cv') wr w') : Duo T E T' E' w p pv cv ps ch p' pv' cv' qs dh w' :=
  ⟨h.a.chg k h.ap, m, h.ap, h.na, h.nb, new_chg h.chg k h.nb⟩

/-- .. that lays its marks anew. -/
theorem Duo.anew (h : Duo T E T' E' w p pv cv ps ch p' pv' cv' ps' ch' wr) {cz' : Value} (m : Mp T' E' p' pv' cz' qs dh w') (k : Chg (Ft p' pv' cv') wr w') (hz : ∀ j, cz'.ownBlock = some j → wr.heap.size ≤ j) : Duo T E T' E' w p pv cv ps ch p' pv' cz' qs dh w' := by
  have s := h.chg.size
  refine ⟨h.a.chg k h.ap, m, ?_, h.na, ?_, new_chg h.chg k h.nb⟩
  · rintro j hj (e | e | e)
    · exact h.ap j hj (.inl e)
    · exact h.ap j hj (.inr (.inl e))
    · have := hz j e
      have := h.a.lt j hj
      omega
  · rintro j (e | e | e)
    · exact h.nb j (.inl e)
    · exact h.nb j (.inr (.inl e))
    · have := hz j e
      omega

/-- A write elsewhere. -/
theorem Duo.aside {F : Nat → Prop} (h : Duo T E T' E' w p pv cv ps ch p' pv' cv' ps' ch' wr) (k : Chg F wr w') (hF : ∀ j, F j → w.heap.size ≤ j ∧ ¬ Ft p pv cv j ∧ ¬ Ft p' pv' cv' j) : Duo T E T' E' w p pv cv ps ch p' pv' cv' ps' ch' w' :=
  ⟨h.a.chg k (fun j hj e => (hF j e).2.1 hj), h.b.chg k (fun j hj e => (hF j e).2.2 hj), h.ap, h.na, h.nb, h.chg.trans k (fun j hj => .inr (hF j hj).1)⟩

/-- Two maps, made one behind the other. -/
theorem Duo.made {w1 w2 : World} (k0 : Chg no w wr) (h1 : Mp T E p pv cv ps ch w1) (k1 : Chg no wr w1) (n1 : ∀ k, Ft p pv cv k → wr.heap.size ≤ k) (k2 : Chg no w1 w2) (h3 : Mp T' E' p' pv' cv' ps' ch' w') (k3 : Chg no w2 w') (n3 : ∀ k, Ft p' pv' cv' k → w2.heap.size ≤ k) : Duo T E T' E' w p pv cv ps ch p' pv' cv' ps' ch' w' := by
  have s0 := k0.size
  have s1 := k1.size
  have s2 := k2.size
  refine ⟨h1.same (k2.then k3), h3, fun k hk e => ?_, fun k hk => ?_, fun k hk => ?_, ((k0.then k1).then k2).then k3⟩
  · have := h1.lt k hk
    have := n3 k e
    omega
  · have := n1 k hk
    omega
  · have := n3 k hk
    omega
end

end Go.Proofs.Ytocbmjkbbbmncaa.st
