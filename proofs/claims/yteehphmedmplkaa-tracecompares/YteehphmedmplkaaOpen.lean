/- What a law is told of slices that came in: of records, of numbers. -/
import Derived.Test.YteehphmedmplkaaCount
namespace Go.Proofs.Yteehphmedmplkaa.st
open Go.ChangeShapes Go.WideShapes Go.ChangeAt Go.RowKit Go.Proofs.Yteehphmedmplkaa.hp Go.Proofs.Yteehphmedmplkaa.md
set_option linter.unusedVariables false

section
variable {H : Type} {enc : TypeId × Value → H} {w : World} {base fuel : Nat} {x : DataW H × List MemPlace}

theorem open_nums {v : Value} (h : DataW.trod enc Try.prog w base (fun _ => true) true fuel 59 [v] = some x) : ∃ zs : List Int, Lies (Old w) w v (zs.map (Value.int .i64)) := by
  rcases open_ints Try.underlying59 Try.underlying3 (by kernel_rfl) h with ⟨hcs, _⟩ | ⟨a, l, c, zs, hcs, _, hl, hm, hz, _, hcell, hwz⟩
  · simp at hcs
    subst hcs
    exact ⟨[], .inl ⟨rfl, rfl⟩⟩
  · simp at hcs
    subst hcs
    simp at hz
    have hlen : ((zs.take l).map (Value.int .i64)).length = l := by simp; omega
    refine ⟨zs.take l, ?_⟩
    have : Lies (Old w) w (.slice (some a) ((zs.take l).map (Value.int .i64)).length c) ((zs.take l).map (Value.int .i64)) := by
      refine lies_fn (fun he => ?_) (fun i hi => ?_)
      · have h0 : 0 < l := by
          rw [← hlen]
          exact List.length_pos_iff.2 he
        exact cell_lt (hcell 0 (by omega))
      · rw [hlen] at hi
        have := hcell i (by omega)
        refine ⟨_, ?_, this⟩
        rw [List.getElem?_map, List.getElem?_take_of_lt hi, List.getElem?_eq_getElem (by omega), List.getD_eq_getElem?_getD, List.getElem?_eq_getElem (by omega)]
        rfl
    rw [hlen] at this
    exact this

theorem open_recs {a : Option Addr} {len cap : Nat} (h : DataW.trod enc Try.prog w base (fun _ => true) true fuel 42 [.slice a len cap] = some x) : ∃ T, Tra (Old w) w (.slice a len cap) T := by
  rcases Deep.open_slice Try.underlying42 h with ⟨hcs, _⟩ | ⟨y, l, c, m, n, D, Pl, hcs, _, hl, hm, hmm, _, hx⟩
  · simp at hcs
    obtain ⟨rfl, rfl, rfl⟩ := hcs
    exact ⟨[], none, 0, rfl, Nat.le_refl _, fun i hi => by simp at hi⟩
  · simp at hcs
    obtain ⟨rfl, rfl, rfl⟩ := hcs
    have each : ∀ i, i < len → ∃ o : Rec, Old w y.block ∧ w.cell? (y.add (i * 3)) = some (.int .i64 o.kind) ∧ w.cell? (y.add (i * 3 + 1)) = some (.int .i64 o.addr) ∧ w.cell? (y.add (i * 3 + 2)) = some o.v ∧ Lies (Old w) w o.v (o.zs.map (Value.int .u8)) := by
      intro i hi
      obtain ⟨cs', h1, h2⟩ := hx i (by rw [hmm]; split <;> omega)
      have ce : Try.prog.cellsOf 61 = 3 := by kernel_rfl
      rw [ce] at h1
      obtain ⟨_, hlen, hcell⟩ := World.cells?_some h1
      obtain ⟨xs, k, hk, hxy, _, hxl, hf⟩ := DataW.trod_struct Try.underlying61 h2
      match xs, hxl, cs', hlen with
      | [y0, y1, y2], _, [v0, v1, v2], _ =>
        have g0 := hf 0 _ rfl
        have g1 := hf 1 _ rfl
        have g2 := hf 2 _ rfl
        have c3 : Try.prog.cellsOf 3 = 1 := by kernel_rfl
        have c31 : Try.prog.cellsOf 31 = 1 := by kernel_rfl
        simp [c3, c31] at g0 g1 g2
        have e0 := hcell 0 (by omega)
        have e1 := hcell 1 (by omega)
        have e2 := hcell 2 (by omega)
        rw [Deep.add_add] at e0 e1 e2
        obtain ⟨n0, q0, _, _⟩ := DataW.trod_int Try.underlying3 g0
        obtain ⟨n1, q1, _, hw1⟩ := DataW.trod_int Try.underlying3 g1
        obtain ⟨zs, hzs⟩ := open_bytes g2
        simp at q0 q1 e0 e1 e2
        subst q0 q1
        exact ⟨⟨n0, n1, v2, zs⟩, cell_lt e0, e0, e1, e2, hzs⟩
    obtain ⟨O, hO⟩ := @Deep.choose_lt Rec ⟨dR⟩ _ _ each
    have hlen : ((List.range len).map O).length = len := by simp
    refine ⟨(List.range len).map O, some y, cap, by rw [hlen], by rw [hlen]; exact hl, fun i hi => ⟨y, rfl, ?_⟩⟩
    rw [hlen] at hi
    have e : ((List.range len).map O).getD i dR = O i := by
      rw [List.getD_eq_getElem?_getD, List.getElem?_map, List.getElem?_range hi]
      rfl
    rw [e]
    exact hO i hi
end

end Go.Proofs.Yteehphmedmplkaa.st
