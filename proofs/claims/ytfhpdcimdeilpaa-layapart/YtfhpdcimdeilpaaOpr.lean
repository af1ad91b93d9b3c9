/- What a law is told of lists of lists of ints that came in. -/
import Derived.Test.YtfhpdcimdeilpaaArgs
import Derived.Deep.Matrix
namespace Go.Proofs.Ytfhpdcimdeilpaa.st
open Go.ChangeShapes Go.WideShapes Go.ChangeAt Go.RowKit Go.Proofs.Ytfhpdcimdeilpaa.hp
set_option linter.unusedVariables false

section
variable {H : Type} {enc : TypeId × Value → H} {w : World} {base fuel : Nat} {x : DataW H × List MemPlace}

/-- Rows of ints that came in: row r shows Z r, its slice is A r, its length, C r. -/
def Rws (w : World) (a : Option Addr) (len : Nat) (A : Nat → Option Addr) (C : Nat → Nat) (Z : Nat → List Int) : Prop :=
  ∀ r, r < len → ∃ y, a = some y ∧ w.cell? (y.add r) = some (.slice (A r) (Z r).length (C r)) ∧ (Z r).length ≤ C r ∧ C r ≤ maxLen ∧ Lies (Old w) w (.slice (A r) (Z r).length (C r)) ((Z r).map (Value.int .i64))

theorem open_rows {a : Option Addr} {len cap : Nat} (h : DataW.trod enc Try.prog w base (fun _ => true) true fuel 22 [.slice a len cap] = some x) : ∃ (A : Nat → Option Addr) (C : Nat → Nat) (Z : Nat → List Int), Rws w a len A C Z := by
  rcases Deep.open_int_rows Try.underlying22 Try.underlying50 Try.underlying3 (by kernel_rfl) (by kernel_rfl) h with ⟨hcs, _⟩ | ⟨y, l, c, A, L, C, Z, hcs, _, hl, hm, _, hall⟩
  · simp at hcs
    obtain ⟨rfl, rfl, rfl⟩ := hcs
    exact ⟨fun _ => none, fun _ => 0, fun _ => [], fun r hr => by omega⟩
  · simp at hcs
    obtain ⟨rfl, rfl, rfl⟩ := hcs
    refine ⟨A, C, fun r => (Z r).take (L r), fun r hr => ?_⟩
    obtain ⟨h1, h2, h3, h4, _, h6, h7⟩ := hall r (by omega)
    have hlen : ((Z r).take (L r)).length = L r := by rw [List.length_take]; omega
    refine ⟨y, rfl, by rw [hlen]; exact h1, by rw [hlen]; exact h2, h3, ?_⟩
    show Lies (Old w) w (.slice (A r) ((Z r).take (L r)).length (C r)) (((Z r).take (L r)).map (Value.int .i64))
    rw [hlen]
    cases hA : A r with
    | none =>
      have hc0 := h6 hA
      have hl0 : L r = 0 := by omega
      refine .inl ⟨?_, ?_⟩
      · rw [hl0, hc0]
      · rw [hl0]
        rfl
    | some a' =>
      obtain ⟨_, hcell⟩ := h7 a' hA
      have hlen2 : (((Z r).take (L r)).map (Value.int .i64)).length = L r := by rw [List.length_map, hlen]
      have : Lies (Old w) w (.slice (some a') (((Z r).take (L r)).map (Value.int .i64)).length (C r)) (((Z r).take (L r)).map (Value.int .i64)) := by
        refine lies_fn (fun he => ?_) (fun i hi => ?_)
        · have h0 : 0 < L r := by
            rw [← hlen2]
            exact List.length_pos_iff.2 he
          exact cell_lt (hcell 0 (by omega))
        · rw [hlen2] at hi
          have := hcell i (by omega)
          refine ⟨_, ?_, this⟩
          rw [List.getElem?_map, List.getElem?_take_of_lt hi, List.getElem?_eq_getElem (by omega), List.getD_eq_getElem?_getD, List.getElem?_eq_getElem (by omega)]
          rfl
      rw [hlen2] at this
      exact this

end

end Go.Proofs.Ytfhpdcimdeilpaa.st
