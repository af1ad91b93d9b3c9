/- What a law is told of bytes and of nonces that came in. -/
import Derived.Test.YtmchjnmmeankgaaOrd
import Derived.Deep.Slices
import Derived.ChangeOld
import Derived.ShutString
import Derived.Lib.SmallJoins
namespace Go.Proofs.Ytmchjnmmeankgaa.st
open Go.ChangeShapes Go.WideShapes Go.ChangeAt Go.RowKit Go.Proofs.Ytmchjnmmeankgaa.hp Go.Proofs.Ytmchjnmmeankgaa.dg
set_option linter.unusedVariables false

/-- The blocks that there are. -/
def Old (w : World) : Nat → Prop := fun k => k < w.heap.size

theorem lies_fn {J : Nat → Prop} {w : World} {x : Addr} {cap : Nat} {xs : List Value} (hJ : xs ≠ [] → J x.block) (h : ∀ i, i < xs.length → ∃ u, xs[i]? = some u ∧ w.cell? (x.add i) = some u) : Lies J w (.slice (some x) xs.length cap) xs := by
  refine .inr ⟨x, cap, rfl, hJ, fun i u hu => ?_⟩
  obtain ⟨u', h1, h2⟩ := h i (List.getElem?_eq_some_iff.1 hu).1
  rw [h1] at hu
  cases hu
  exact h2

theorem cell_lt {w : World} {a : Addr} {i : Nat} {u : Value} (h : w.cell? (a.add i) = some u) : Old w a.block := by
  have := World.block_lt_of_cell? w _ h
  rwa [add_block] at this

section
variable {H : Type} {enc : TypeId × Value → H} {w : World} {base fuel : Nat} {x : DataW H × List MemPlace}

theorem open_bytes {v : Value} (h : DataW.trod enc Try.prog w base (fun _ => true) true fuel 22 [v] = some x) : ∃ zs : List Int, Lies (Old w) w v (zs.map (Value.int .u8)) ∧ Bytes zs := by
  rcases open_ints Try.underlying22 Try.underlying5 (by kernel_rfl) h with ⟨hcs, _⟩ | ⟨a, l, c, zs, hcs, _, hl, hm, hz, _, hcell, hwz⟩
  · simp at hcs
    subst hcs
    exact ⟨[], .inl ⟨rfl, rfl⟩, fun x hx => by simp at hx⟩
  · simp at hcs
    subst hcs
    simp at hz
    have hlen : ((zs.take l).map (Value.int .u8)).length = l := by simp; omega
    refine ⟨zs.take l, ?_⟩
    have : Lies (Old w) w (.slice (some a) ((zs.take l).map (Value.int .u8)).length c) ((zs.take l).map (Value.int .u8)) := by
      refine lies_fn (fun he => ?_) (fun i hi => ?_)
      · have h0 : 0 < l := by
          rw [← hlen]
          exact List.length_pos_iff.2 he
        exact cell_lt (hcell 0 (by omega))
      · rw [hlen] at hi
        have := hcell i (by omega)
        refine ⟨_, ?_, this⟩
        rw [List.getElem?_map, List.getElem?_take_of_lt hi, List.getElem?_eq_getElem (by omega), List.getD_eq_getElem?_getD, List.getElem?_eq_getElem (by omega)]
        rfl
    rw [hlen] at this
    exact ⟨this, fun x hx => bounds_u8 (hwz x (List.mem_of_mem_take hx))⟩

theorem open_cap {t e : TypeId} {a : Option Addr} {l c : Nat} (ht : Try.prog.underlying t = some (.slice e)) (h : DataW.trod enc Try.prog w base (fun _ => true) true fuel t [.slice a l c] = some x) : l ≤ c ∧ c ≤ maxLen := by
  rcases Deep.open_slice ht h with ⟨hcs, _⟩ | ⟨y, l', c', m, n, D, Pl, hcs, _, hl, hm, _⟩
  · simp at hcs
    obtain ⟨_, rfl, rfl⟩ := hcs
    exact ⟨Nat.le_refl _, by unfold maxLen; omega⟩
  · simp at hcs
    obtain ⟨_, rfl, rfl⟩ := hcs
    exact ⟨hl, hm⟩

end

theorem cells23 : Try.prog.cellsOf 40 = 2 := by kernel_rfl

section
variable {H : Type} {enc : TypeId × Value → H} {w : World} {base : Nat} {spare : Nat → Bool} {held : Bool}

theorem open_nonce {r : Reach} {b0 : Nat} {v : Value} {d : DataW H} {p : List MemPlace} (hv : Value.okWide Try.prog w r b0 40 v) (h : DataW.Trod enc Try.prog w base spare held 40 v d p) :
    ∃ a b : Int, v = nv a b ∧ d = .agg [.lit (.int .i64 a), .lit (.int .i64 b)] ∧ p = [] ∧ (Lit.int .i64 a).wf = true ∧ (Lit.int .i64 b).wf = true := by
  obtain ⟨c0, c1, y0, y1, m, rfl, rfl, rfl, hy0, hy1⟩ := Joins.open_agg2 Try.underlying40 (by kernel_rfl) cells23 hv h
  obtain ⟨a, e0, rfl, wa⟩ := DataW.trod_int Try.underlying3 hy0
  obtain ⟨b, e1, rfl, wb⟩ := DataW.trod_int Try.underlying3 hy1
  simp at e0 e1
  subst e0 e1
  exact ⟨a, b, rfl, rfl, rfl, wa, wb⟩

theorem shut_nonce {a b : Int} (wa : (Lit.int .i64 a).wf = true) (wb : (Lit.int .i64 b).wf = true) : DataW.Trod enc Try.prog w base spare held 40 (nv a b) (.agg [.lit (.int .i64 a), .lit (.int .i64 b)]) [] :=
  Joins.shut_agg2 (y0 := (.lit (.int .i64 a), [])) (y1 := (.lit (.int .i64 b), [])) Try.underlying40 (by kernel_rfl) cells23 ⟨1, by simp [DataW.trod, Try.underlying3, wa]⟩ ⟨1, by simp [DataW.trod, Try.underlying3, wb]⟩
end

end Go.Proofs.Ytmchjnmmeankgaa.st
