/- What a law is told of bytes and of blocks that came in. -/
import Derived.Test.YtedhlidmmmlemaaFst
import Derived.Deep.Slices
import Derived.ChangeOld
import Derived.ShutString
namespace Go.Proofs.Ytedhlidmmmlemaa.st
open Go.ChangeShapes Go.WideShapes Go.ChangeAt Go.RowKit Go.Proofs.Ytedhlidmmmlemaa.hp
set_option linter.unusedVariables false

theorem lies_fn {J : Nat → Prop} {w : World} {x : Addr} {cap : Nat} {xs : List Value} (hJ : xs ≠ [] → J x.block) (h : ∀ i, i < xs.length → ∃ u, xs[i]? = some u ∧ w.cell? (x.add i) = some u) : Lies J w (.slice (some x) xs.length cap) xs := by
  refine .inr ⟨x, cap, rfl, hJ, fun i u hu => ?_⟩
  obtain ⟨u', h1, h2⟩ := h i (List.getElem?_eq_some_iff.1 hu).1
  rw [h1] at hu
  cases hu
  exact h2

section
variable {H : Type} {enc : TypeId × Value → H} {w : World} {base fuel : Nat} {x : DataW H × List MemPlace}

theorem open_bytes {v : Value} (h : DataW.trod enc Try.prog w base (fun _ => true) true fuel 34 [v] = some x) : ∃ zs : List Int, Lies (Old w) w v (zs.map (Value.int .u8)) ∧ Bytes zs := by
  rcases open_ints Try.underlying34 Try.underlying5 (by kernel_rfl) h with ⟨hcs, _⟩ | ⟨a, l, c, zs, hcs, _, hl, hm, hz, _, hcell, hwz⟩
  · simp at hcs
    subst hcs
    exact ⟨[], .inl ⟨rfl, rfl⟩, fun x hx => by simp at hx⟩
  · simp at hcs
    subst hcs
    simp at hz
    have hlen : ((zs.take l).map (Value.int .u8)).length = l := by simp; omega
    refine ⟨zs.take l, ?_⟩
    have : Lies (Old w) w (.slice (some a) ((zs.take l).map (Value.int .u8)).length c) ((zs.take l).map (Value.int .u8)) := by
      refine lies_fn (fun he => ?_) (fun i hi => ?_)
      · have h0 : 0 < l := by
          rw [← hlen]
          exact List.length_pos_iff.2 he
        exact cell_lt (hcell 0 (by omega))
      · rw [hlen] at hi
        have := hcell i (by omega)
        refine ⟨_, ?_, this⟩
        rw [List.getElem?_map, List.getElem?_take_of_lt hi, List.getElem?_eq_getElem (by omega), List.getD_eq_getElem?_getD, List.getElem?_eq_getElem (by omega)]
        rfl
    rw [hlen] at this
    exact ⟨this, fun x hx => bounds_u8 (hwz x (List.mem_of_mem_take hx))⟩

theorem open_cap {t e : TypeId} {a : Option Addr} {l c : Nat} (ht : Try.prog.underlying t = some (.slice e)) (h : DataW.trod enc Try.prog w base (fun _ => true) true fuel t [.slice a l c] = some x) : l ≤ c ∧ c ≤ maxLen := by
  rcases Deep.open_slice ht h with ⟨hcs, _⟩ | ⟨y, l', c', m, n, D, Pl, hcs, _, hl, hm, _⟩
  · simp at hcs
    obtain ⟨_, rfl, rfl⟩ := hcs
    exact ⟨Nat.le_refl _, by unfold maxLen; omega⟩
  · simp at hcs
    obtain ⟨_, rfl, rfl⟩ := hcs
    exact ⟨hl, hm⟩

/-- Blocks that came in. -/
theorem open_blocks {a : Option Addr} {len cap : Nat} (h : DataW.trod enc Try.prog w base (fun _ => true) true fuel 22 [.slice a len cap] = some x) : ∃ xs : List BV, xs.length = len ∧ Bks w (.slice a len cap) xs := by
  rcases Deep.open_slice Try.underlying22 h with ⟨hcs, _⟩ | ⟨y, l, c, m, n, D, Pl, hcs, _, hl, hm, hmm, _, hx⟩
  · simp at hcs
    obtain ⟨rfl, rfl, rfl⟩ := hcs
    exact ⟨[], rfl, Bks.nil w⟩
  · simp at hcs
    obtain ⟨rfl, rfl, rfl⟩ := hcs
    have each : ∀ i, i < len → ∃ o : BV, w.cell? (y.add (i * 2)) = some (.int .i64 o.id) ∧ w.cell? (y.add (i * 2 + 1)) = some o.v ∧ Lies (Old w) w o.v (o.d.map (Value.int .u8)) ∧ Bytes o.d := by
      intro i hi
      obtain ⟨cs', h1, h2⟩ := hx i (by rw [hmm]; split <;> omega)
      have ce : Try.prog.cellsOf 36 = 2 := by kernel_rfl
      rw [ce] at h1
      obtain ⟨_, hlen, hcell⟩ := World.cells?_some h1
      obtain ⟨xs, k, hk, hxy, _, hxl, hf⟩ := DataW.trod_struct Try.underlying36 h2
      match xs, hxl, cs', hlen with
      | [y0, y1], _, [v0, v1], _ =>
        have g0 := hf 0 _ rfl
        have g1 := hf 1 _ rfl
        have c3 : Try.prog.cellsOf 3 = 1 := by kernel_rfl
        have c25 : Try.prog.cellsOf 34 = 1 := by kernel_rfl
        simp [c3, c25] at g0 g1
        have e0 := hcell 0 (by omega)
        have e1 := hcell 1 (by omega)
        rw [Deep.add_add] at e0 e1
        obtain ⟨n0, q0, _, _⟩ := DataW.trod_int Try.underlying3 g0
        obtain ⟨zs, hL, hB⟩ := open_bytes g1
        simp at q0 e0 e1
        subst q0
        exact ⟨⟨n0, v1, zs⟩, e0, e1, hL, hB⟩
    obtain ⟨z, hz⟩ := @Deep.choose_lt BV ⟨dBV⟩ _ _ each
    have hlen : ((List.range len).map z).length = len := by simp
    have hget : ∀ i, i < len → ((List.range len).map z).getD i dBV = z i := by
      intro i hi
      rw [List.getD_eq_getElem?_getD, List.getElem?_map, List.getElem?_range hi]
      rfl
    refine ⟨(List.range len).map z, hlen, ?_, ?_⟩
    · have := lie_fn (w := w) (y := y) (cap := cap) (xs := (List.range len).map z) (fun i hi => by rw [hlen] at hi; rw [hget i hi]; exact ⟨(hz i hi).1, (hz i hi).2.1⟩)
      rw [hlen] at this ⊢
      exact this
    · intro b hb
      obtain ⟨i, hi, rfl⟩ := List.mem_map.1 hb
      have hi' : i < len := List.mem_range.1 hi
      exact ⟨(hz i hi').2.2.1, (hz i hi').2.2.2⟩
end

theorem abs_bound {xs : List BV} {l : List Bk} {n : Nat} (h : abs xs = l) (hl : l.length ≤ n) : xs.length ≤ n := by
  rw [← abs_len, h]
  exact hl

end Go.Proofs.Ytedhlidmmmlemaa.st
