/- What the walk of TapeCuts carries from loop to loop: two tapes of pads, one of leaves, and the bytes gathered so far. -/
import Derived.Test.YtfandaicnolkeaaBytes
namespace Go.Proofs.Ytfandaicnolkeaa.tp
open Go.ChangeShapes Go.WideShapes Go.ChangeAt Go.RowKit Go.Proofs.Ytfandaicnolkeaa.hp
set_option linter.unusedVariables false

/-- A world of which p holds. -/
structure InC (p : World → Prop) where
  w : World
  h : p w

/-- A region that draws its order, all of whose operations yield one value in every world of which p holds, and whose calls lead from such worlds to such worlds. -/
theorem region_in {P : Program} (p : World → Prop) {id : Nat} {Q : Exit → Act → World → Prop} {a : Act} {w : World} {l : List Oper} (hm : P.follows .mixedOrders = true) (hB : Region.lexB .any l.toArray = true) (hC : p w.drew)
    (h : wpQuiet P l.toArray (fun w' => ∃ x : InC p, w' = x.w) (fun a' => ∀ w', (∃ x : InC p, w' = x.w) → Q .normal a' w') l a) : (Code.region id l.toArray true).wp P Q a w :=
  wp_region_quiet (C := fun w' => ∃ x : InC p, w' = x.w) hm hB ⟨⟨w.drew, hC⟩, rfl⟩ (by simpa using h)

theorem padsOf_append (zs : List Int) (d n m : Nat) : padsOf zs d n ++ padsOf zs (d + n) m = padsOf zs d (n + m) := by
  unfold padsOf
  rw [List.range_add, List.map_append, List.map_map]
  congr 1
  apply List.map_congr_left
  intro i _
  simp [Nat.add_assoc]

/-- D, E, F: how many were drawn of the three tapes; x: the slice that holds the D bytes gathered. -/
structure S1 (w : World) (b1 b2 b3 b4 p q r : Nat) (v u t : Value) (zp zl : List Int) (D E F : Nat) (x : Value) (wr : World) : Prop where
  all : wr.ownsRow b4 5 1 x D ((padsOf zp 0 D).map (Value.int .u8))
  P : Tp 50 5 .u8 wr p D zp v b1 b2
  Q : Tp 50 5 .u8 wr q E zp u b2 b3
  R : Tp 46 3 .i64 wr r F zl t b3 b4
  C : Chg [] w wr
  h0 : w.heap.size ≤ b1
  h1 : b1 ≤ b2
  h2 : b2 ≤ b3
  h3 : b3 ≤ b4

section
variable {w : World} {b1 b2 b3 b4 p q r : Nat} {v u t : Value} {zp zl : List Int} {D E F : Nat} {x : Value} {wr : World}

theorem S1.own (h : S1 w b1 b2 b3 b4 p q r v u t zp zl D E F x wr) : ∀ k, x.ownBlock = some k → b4 ≤ k := fun k hk => (h.all.lt k hk).1

/-- What is drawn of the first tape and appended to the gathered bytes. -/
theorem S1.step (h : S1 w b1 b2 b3 b4 p q r v u t zp zl D E F x wr) {c : Nat} {w5 w6 : World} {x' : Value} (hP : Tp 50 5 .u8 w5 p (D + c) zp v b1 b2) (h5 : Chg [p] wr w5)
    (h6 : w5.grownBy w6 x.ownBlock) (ho : w6.ownsRow b4 5 1 x' (D + c) ((padsOf zp 0 D).map (Value.int .u8) ++ (padsOf zp D c).map (Value.int .u8))) : S1 w b1 b2 b3 b4 p q r v u t zp zl (D + c) E F x' w6 := by
  have hp1 := h.P.plo
  have hp2 := h.P.phi
  have g6 := grown_chg h6
  have hx : ∀ y, y ∈ x.ownBlock.toList → b4 ≤ y := by intro y hy; rw [Option.mem_toList] at hy; exact h.own y hy
  have e1 := h.h1
  have e2 := h.h2
  have e3 := h.h3
  have e0 := h.h0
  refine ⟨?_, ?_, ?_, ?_, ?_, h.h0, h.h1, h.h2, h.h3⟩
  · rw [← List.map_append] at ho
    have := padsOf_append zp 0 D c
    rw [Nat.zero_add] at this
    rw [← this]
    exact ho
  · exact hP.chg g6 (fun y hy => by have := hx y hy; omega)
  · exact (h.Q.chg h5 (fun y hy => by simp at hy; omega)).chg g6 (fun y hy => by have := hx y hy; omega)
  · exact (h.R.chg h5 (fun y hy => by simp at hy; omega)).chg g6 (fun y hy => by have := hx y hy; omega)
  · exact (h.C.trans h5 (fun y hy => by simp at hy; exact .inr (by omega))).trans g6 (fun y hy => by have := hx y hy; exact .inr (by omega))

theorem S1.later (h : S1 w b1 b2 b3 b4 p q r v u t zp zl D E F x wr) {w' : World} (c : Chg [] wr w') : S1 w b1 b2 b3 b4 p q r v u t zp zl D E F x w' :=
  ⟨c.owns h.all (by simp), h.P.chg c (by simp), h.Q.chg c (by simp), h.R.chg c (by simp), h.C.trans c (by simp), h.h0, h.h1, h.h2, h.h3⟩

theorem S1.drewQ (h : S1 w b1 b2 b3 b4 p q r v u t zp zl D E F x wr) {E' : Nat} {w' : World} (hQ : Tp 50 5 .u8 w' q E' zp u b2 b3) (c : Chg [q] wr w') : S1 w b1 b2 b3 b4 p q r v u t zp zl D E' F x w' := by
  have hq1 := h.Q.plo
  have hq2 := h.Q.phi
  have e0 := h.h0
  have e1 := h.h1
  have e3 := h.h3
  exact ⟨c.owns h.all (fun k hk e => by have := h.own k hk; simp at e; omega), h.P.chg c (fun y hy => by simp at hy; omega), hQ, h.R.chg c (fun y hy => by simp at hy; omega), h.C.trans c (fun y hy => by simp at hy; exact .inr (by omega)), h.h0, h.h1, h.h2, h.h3⟩

theorem S1.drewR (h : S1 w b1 b2 b3 b4 p q r v u t zp zl D E F x wr) {F' : Nat} {w' : World} (hR : Tp 46 3 .i64 w' r F' zl t b3 b4) (c : Chg [r] wr w') : S1 w b1 b2 b3 b4 p q r v u t zp zl D E F' x w' := by
  have hr1 := h.R.plo
  have hr2 := h.R.phi
  have e0 := h.h0
  have e1 := h.h1
  have e2 := h.h2
  exact ⟨c.owns h.all (fun k hk e => by have := h.own k hk; simp at e; omega), h.P.chg c (fun y hy => by simp at hy; omega), h.Q.chg c (fun y hy => by simp at hy; omega), hR, h.C.trans c (fun y hy => by simp at hy; exact .inr (by omega)), h.h0, h.h1, h.h2, h.h3⟩
end

theorem leaf_one (zs : List Int) (k h : Nat) (P : Int) (hP : P = 2 ^ h) : ∃ N : Int, leafOf zs k h = N ∧ 0 ≤ N ∧ N < P ∧ (0 ≤ zs.getD k 0 → zs.getD k 0 % P = N) := by
  have h0 : (0 : Int) < 2 ^ h := Int.pow_pos (by omega)
  refine ⟨_, rfl, Int.emod_nonneg _ (by omega), ?_, fun hz => ?_⟩
  · subst hP; exact Int.emod_lt_of_pos _ h0
  · subst hP; unfold leafOf; rw [Int.max_eq_left hz]

theorem Arg.at {k : IntKind} {w : World} {a : Option Addr} {len cap : Nat} {zs : List Int} (h : Arg k w a len cap zs) (i : Nat) (hi : i < len) : ∃ x, a = some x ∧ w.cell? (x.add i) = some (.int k (zs.getD i 0)) := by
  rcases h with ⟨rfl, rfl, rfl, rfl⟩ | ⟨x, rfl, hz, hc⟩
  · omega
  · exact ⟨x, rfl, hc i hi⟩
end Go.Proofs.Ytfandaicnolkeaa.tp
