/- A configuration by value; its numbers. -/
import Derived.Test.YtfhpdcimdeilpaaRows
import Derived.Test.YtfhpdcimdeilpaaHeap
import Derived.Test.YtfhpdcimdeilpaaApp
import Derived.Test.YtfhpdcimdeilpaaFar
import Derived.ProofKit
import Derived.OpenShut
import Derived.WalkLawsBesides
import Derived.WalkSpells
import Derived.Deep.QuietTactic
import Derived.BigQuiet
import Derived.RegionTactic
import Derived.BigRegion
import Derived.Deep.RegionWith
import Derived.ChangeAlike
import Derived.Handy
import Derived.Laws.BytesArg
import Derived.Laws.AppendOwnNone
import Derived.Laws.BitsAllLaws
import Derived.Laws.OwnMore
import Derived.Deep.Cut
import Derived.Deep.CutRange
namespace Go.Proofs.Ytfhpdcimdeilpaa.st
open Go.ChangeShapes Go.WideShapes Go.ChangeAt Go.RowKit Go.Proofs.Ytfhpdcimdeilpaa.hp
set_option linter.unusedVariables false
set_option linter.unusedSimpArgs false

/-- The numbers of a configuration that may be. -/
structure Cf where
  h : Nat
  z : Nat
  b : Nat
  r : Nat
  rd : Nat
  wr : Nat
  s : Nat
  p : Nat
  q : Nat
  t : Nat

abbrev cfgV (K : Cf) (tv : Value) : Value := .agg #[.int .i64 (K.h : Int), .int .i64 (K.z : Int), .int .i64 (K.b : Int), .int .i64 (K.r : Int), .int .i64 (K.rd : Int), .int .i64 (K.wr : Int), .int .i64 (K.s : Int), .int .i64 (K.p : Int), .int .i64 (K.q : Int), .int .i64 (K.t : Int), tv]

structure okC (K : Cf) : Prop where
  h : K.h ≤ 6
  z : 1 ≤ K.z ∧ K.z ≤ 4
  b : 1 ≤ K.b ∧ K.b ≤ 64
  r : 1 ≤ K.r ∧ K.r ≤ 4
  rd : 1 ≤ K.rd ∧ K.rd ≤ 8
  wr : 1 ≤ K.wr ∧ K.wr ≤ 8
  s : K.s ≤ 64
  p : 1 ≤ K.p ∧ K.p ≤ 8
  q : 1 ≤ K.q ∧ K.q ≤ 16
  t : 1 ≤ K.t ∧ K.t ≤ 8

def slotsN (K : Cf) : Nat := K.r * K.rd + K.wr

theorem slots_le {K : Cf} (h : okC K) : K.r * K.rd ≤ 32 ∧ slotsN K ≤ 40 ∧ 2 ≤ slotsN K := by
  have h1 := Nat.mul_le_mul h.r.2 h.rd.2
  have h2 := Nat.mul_le_mul h.r.1 h.rd.1
  have := h.wr
  unfold slotsN
  omega

abbrev cfgO (h z b r rd wr s p q t : Nat) (tv : Value) : Obj := .cells #[.int .i64 (h : Int), .int .i64 (z : Int), .int .i64 (b : Int), .int .i64 (r : Int), .int .i64 (rd : Int), .int .i64 (wr : Int), .int .i64 (s : Int), .int .i64 (p : Int), .int .i64 (q : Int), .int .i64 (t : Int), tv] 24

section
variable {h z b r rd wr s p q t g : Nat} {tv : Value}

theorem cfg_cells {W : World} (hb : W.heap[g]? = some (cfgO h z b r rd wr s p q t tv)) :
    W.cell? ⟨g, 0, none⟩ = some (.int .i64 (h : Int)) ∧ W.cell? ⟨g, 1, none⟩ = some (.int .i64 (z : Int)) ∧ W.cell? ⟨g, 2, none⟩ = some (.int .i64 (b : Int)) ∧ W.cell? ⟨g, 3, none⟩ = some (.int .i64 (r : Int)) ∧ W.cell? ⟨g, 4, none⟩ = some (.int .i64 (rd : Int)) ∧ W.cell? ⟨g, 5, none⟩ = some (.int .i64 (wr : Int)) ∧ W.cell? ⟨g, 6, none⟩ = some (.int .i64 (s : Int)) ∧ W.cell? ⟨g, 7, none⟩ = some (.int .i64 (p : Int)) ∧ W.cell? ⟨g, 8, none⟩ = some (.int .i64 (q : Int)) ∧ W.cell? ⟨g, 9, none⟩ = some (.int .i64 (t : Int)) ∧ W.cell? ⟨g, 10, none⟩ = some tv :=
  ⟨(row_cell hb 0 _ rfl).1, (row_cell hb 1 _ rfl).1, (row_cell hb 2 _ rfl).1, (row_cell hb 3 _ rfl).1, (row_cell hb 4 _ rfl).1, (row_cell hb 5 _ rfl).1, (row_cell hb 6 _ rfl).1, (row_cell hb 7 _ rfl).1, (row_cell hb 8 _ rfl).1, (row_cell hb 9 _ rfl).1, (row_cell hb 10 _ rfl).1⟩

theorem cfg_facts {pK : World → Prop} {w1 : World} (hpK : ∀ w', pK w' ↔ Chg no w1 w') (hb : w1.heap[g]? = some (cfgO h z b r rd wr s p q t tv)) :
    (∀ x : far.InC pK, x.w.cell? ⟨g, 0, none⟩ = some (.int .i64 (h : Int))) ∧ (∀ x : far.InC pK, x.w.cell? ⟨g, 1, none⟩ = some (.int .i64 (z : Int))) ∧ (∀ x : far.InC pK, x.w.cell? ⟨g, 2, none⟩ = some (.int .i64 (b : Int))) ∧ (∀ x : far.InC pK, x.w.cell? ⟨g, 3, none⟩ = some (.int .i64 (r : Int))) ∧ (∀ x : far.InC pK, x.w.cell? ⟨g, 4, none⟩ = some (.int .i64 (rd : Int))) ∧ (∀ x : far.InC pK, x.w.cell? ⟨g, 5, none⟩ = some (.int .i64 (wr : Int))) ∧ (∀ x : far.InC pK, x.w.cell? ⟨g, 6, none⟩ = some (.int .i64 (s : Int))) ∧ (∀ x : far.InC pK, x.w.cell? ⟨g, 7, none⟩ = some (.int .i64 (p : Int))) ∧ (∀ x : far.InC pK, x.w.cell? ⟨g, 8, none⟩ = some (.int .i64 (q : Int))) ∧ (∀ x : far.InC pK, x.w.cell? ⟨g, 9, none⟩ = some (.int .i64 (t : Int))) ∧ (∀ x : far.InC pK, x.w.cell? ⟨g, 10, none⟩ = some tv) ∧ Nonempty (far.InC pK) :=
  have xB : ∀ x : far.InC pK, x.w.heap[g]? = some (cfgO h z b r rd wr s p q t tv) := fun x => ((hpK _).1 x.h).heap hb id
  ⟨fun x => (row_cell (xB x) 0 _ rfl).1, fun x => (row_cell (xB x) 1 _ rfl).1, fun x => (row_cell (xB x) 2 _ rfl).1, fun x => (row_cell (xB x) 3 _ rfl).1, fun x => (row_cell (xB x) 4 _ rfl).1, fun x => (row_cell (xB x) 5 _ rfl).1, fun x => (row_cell (xB x) 6 _ rfl).1, fun x => (row_cell (xB x) 7 _ rfl).1, fun x => (row_cell (xB x) 8 _ rfl).1, fun x => (row_cell (xB x) 9 _ rfl).1, fun x => (row_cell (xB x) 10 _ rfl).1, ⟨⟨w1, (hpK _).2 (Chg.refl no w1)⟩⟩⟩

end

theorem rslots_any (w : World) (K : Cf) (hK : okC K) (a : Option Addr) (n c : Nat) : Calls Try.prog 17 #[cfgV K (.slice a n c)] w fun e w' => e = .returned (.int .i64 ((slotsN K : Nat) : Int)) ∧ Chg no w w' := by
  obtain ⟨h1, h2, _⟩ := slots_le hK
  have hi : (K.r : Int) * (K.rd : Int) ≤ 32 := by
    have : ((K.r * K.rd : Nat) : Int) ≤ 32 := by omega
    rwa [Int.natCast_mul] at this
  have hi0 : 0 ≤ (K.r : Int) * (K.rd : Int) := Int.mul_nonneg (by omega) (by omega)
  have hw := hK.wr
  have he : (K.r : Int) * (K.rd : Int) + (K.wr : Int) = ((slotsN K : Nat) : Int) := by unfold slotsN; rw [Int.natCast_add, Int.natCast_mul]
  obtain ⟨h, z, b, r, rd, wr, s, p, q, t⟩ := K
  simp only at *
  clear hK
  go_enter Try.func17, Try.ntmps17
  go_wp2
  go_ret
  exact ⟨ret_int he, (Chg.refl no w).alloc _⟩

end Go.Proofs.Ytfhpdcimdeilpaa.st
