/- What a law is told of slices that came in: of bytes, of bools, of operations. -/
import Derived.Test.YteehphmedmplkaaWrite
import Derived.Deep.Grids
import Derived.Deep.Slices
import Derived.ChangeOld
import Derived.ShutString
namespace Go.Proofs.Yteehphmedmplkaa.st
open Go.ChangeShapes Go.WideShapes Go.ChangeAt Go.RowKit Go.Proofs.Yteehphmedmplkaa.hp Go.Proofs.Yteehphmedmplkaa.md
set_option linter.unusedVariables false

theorem lies_new {w : World} (zs : List Value) (t : TypeId) : Lies (fun k => k = w.heap.size) (w.alloc (.cells zs.toArray t)) (.slice (some ⟨w.heap.size, 0, none⟩) zs.length zs.length) zs :=
  lies_block (heap_alloc_new w _) _

/-- The blocks that there are. -/
def Old (w : World) : Nat → Prop := fun k => k < w.heap.size

theorem lies_fn {J : Nat → Prop} {w : World} {x : Addr} {cap : Nat} {xs : List Value} (hJ : xs ≠ [] → J x.block) (h : ∀ i, i < xs.length → ∃ u, xs[i]? = some u ∧ w.cell? (x.add i) = some u) : Lies J w (.slice (some x) xs.length cap) xs := by
  refine .inr ⟨x, cap, rfl, hJ, fun i u hu => ?_⟩
  obtain ⟨u', h1, h2⟩ := h i (List.getElem?_eq_some_iff.1 hu).1
  rw [h1] at hu
  cases hu
  exact h2

theorem cell_lt {w : World} {a : Addr} {i : Nat} {u : Value} (h : w.cell? (a.add i) = some u) : Old w a.block := by
  have := World.block_lt_of_cell? w _ h
  rwa [add_block] at this

section
variable {H : Type} {enc : TypeId × Value → H} {w : World} {base fuel : Nat} {x : DataW H × List MemPlace}

theorem open_bytes {v : Value} (h : DataW.trod enc Try.prog w base (fun _ => true) true fuel 31 [v] = some x) : ∃ zs : List Int, Lies (Old w) w v (zs.map (Value.int .u8)) := by
  rcases open_ints Try.underlying31 Try.underlying5 (by kernel_rfl) h with ⟨hcs, _⟩ | ⟨a, l, c, zs, hcs, _, hl, hm, hz, _, hcell, hwz⟩
  · simp at hcs
    subst hcs
    exact ⟨[], .inl ⟨rfl, rfl⟩⟩
  · simp at hcs
    subst hcs
    simp at hz
    have hlen : ((zs.take l).map (Value.int .u8)).length = l := by simp; omega
    refine ⟨zs.take l, ?_⟩
    have : Lies (Old w) w (.slice (some a) ((zs.take l).map (Value.int .u8)).length c) ((zs.take l).map (Value.int .u8)) := by
      refine lies_fn (fun he => ?_) (fun i hi => ?_)
      · have h0 : 0 < l := by
          rw [← hlen]
          exact List.length_pos_iff.2 he
        exact cell_lt (hcell 0 (by omega))
      · rw [hlen] at hi
        have := hcell i (by omega)
        refine ⟨_, ?_, this⟩
        rw [List.getElem?_map, List.getElem?_take_of_lt hi, List.getElem?_eq_getElem (by omega), List.getD_eq_getElem?_getD, List.getElem?_eq_getElem (by omega)]
        rfl
    rw [hlen] at this
    exact this

theorem open_keep {v : Value} (h : DataW.trod enc Try.prog w base (fun _ => true) true fuel 32 [v] = some x) : ∃ bs : List Bool, Lies (Old w) w v (bs.map Value.bool) := by
  rcases Deep.open_bools Try.underlying32 Try.underlying4 (by kernel_rfl) h with ⟨hcs, _⟩ | ⟨a, l, c, B, hcs, _, hl, hm, _, hcell⟩
  · simp at hcs
    subst hcs
    exact ⟨[], .inl ⟨rfl, rfl⟩⟩
  · simp at hcs
    subst hcs
    have hlen : (((List.range l).map B).map Value.bool).length = l := by simp
    refine ⟨(List.range l).map B, ?_⟩
    have : Lies (Old w) w (.slice (some a) (((List.range l).map B).map Value.bool).length c) (((List.range l).map B).map Value.bool) := by
      refine lies_fn (fun he => ?_) (fun i hi => ?_)
      · have h0 : 0 < l := by
          rw [← hlen]
          exact List.length_pos_iff.2 he
        exact cell_lt (hcell 0 (by omega))
      · rw [hlen] at hi
        have := hcell i (by omega)
        refine ⟨_, ?_, this⟩
        rw [List.getElem?_map, List.getElem?_map, List.getElem?_range hi]
        rfl
    rw [hlen] at this
    exact this

theorem open_cap {t e : TypeId} {a : Option Addr} {l c : Nat} (ht : Try.prog.underlying t = some (.slice e)) (h : DataW.trod enc Try.prog w base (fun _ => true) true fuel t [.slice a l c] = some x) : l ≤ c ∧ c ≤ maxLen := by
  rcases Deep.open_slice ht h with ⟨hcs, _⟩ | ⟨y, l', c', m, n, D, Pl, hcs, _, hl, hm, _⟩
  · simp at hcs
    obtain ⟨_, rfl, rfl⟩ := hcs
    exact ⟨Nat.le_refl _, by unfold maxLen; omega⟩
  · simp at hcs
    obtain ⟨_, rfl, rfl⟩ := hcs
    exact ⟨hl, hm⟩

/-- An operation that came in. -/
structure OpA where
  kind : Int
  addr : Int
  b : Value
  zs : List Int
  k : Value
  bs : List Bool

/-- The operations that a slice shows. -/
def OpsAt (w : World) (a : Option Addr) (len : Nat) (O : Nat → OpA) : Prop := ∀ i, i < len → ∃ x, a = some x ∧ Old w x.block ∧ w.cell? (x.add (i * 4)) = some (.int .i64 (O i).kind) ∧ w.cell? (x.add (i * 4 + 1)) = some (.int .i64 (O i).addr) ∧
  w.cell? (x.add (i * 4 + 2)) = some (O i).b ∧ w.cell? (x.add (i * 4 + 3)) = some (O i).k ∧ Lies (Old w) w (O i).b ((O i).zs.map (Value.int .u8)) ∧ Lies (Old w) w (O i).k ((O i).bs.map Value.bool) ∧ (Lit.int .i64 (O i).addr).wf = true

theorem open_ops {a : Option Addr} {len cap : Nat} (h : DataW.trod enc Try.prog w base (fun _ => true) true fuel 22 [.slice a len cap] = some x) : ∃ O, OpsAt w a len O := by
  rcases Deep.open_slice Try.underlying22 h with ⟨hcs, _⟩ | ⟨y, l, c, m, n, D, Pl, hcs, _, hl, hm, hmm, _, hx⟩
  · simp at hcs
    obtain ⟨rfl, rfl, rfl⟩ := hcs
    exact ⟨fun _ => ⟨0, 0, .slice none 0 0, [], .slice none 0 0, []⟩, fun i hi => by omega⟩
  · simp at hcs
    obtain ⟨rfl, rfl, rfl⟩ := hcs
    have each : ∀ i, i < len → ∃ o : OpA, Old w y.block ∧ w.cell? (y.add (i * 4)) = some (.int .i64 o.kind) ∧ w.cell? (y.add (i * 4 + 1)) = some (.int .i64 o.addr) ∧
        w.cell? (y.add (i * 4 + 2)) = some o.b ∧ w.cell? (y.add (i * 4 + 3)) = some o.k ∧ Lies (Old w) w o.b (o.zs.map (Value.int .u8)) ∧ Lies (Old w) w o.k (o.bs.map Value.bool) ∧ (Lit.int .i64 o.addr).wf = true := by
      intro i hi
      obtain ⟨cs', h1, h2⟩ := hx i (by rw [hmm]; split <;> omega)
      have ce : Try.prog.cellsOf 34 = 4 := by kernel_rfl
      rw [ce] at h1
      obtain ⟨_, hlen, hcell⟩ := World.cells?_some h1
      obtain ⟨xs, k, hk, hxy, _, hxl, hf⟩ := DataW.trod_struct Try.underlying34 h2
      match xs, hxl, cs', hlen with
      | [y0, y1, y2, y3], _, [v0, v1, v2, v3], _ =>
        have g0 := hf 0 _ rfl
        have g1 := hf 1 _ rfl
        have g2 := hf 2 _ rfl
        have g3 := hf 3 _ rfl
        have c3 : Try.prog.cellsOf 3 = 1 := by kernel_rfl
        have c32 : Try.prog.cellsOf 31 = 1 := by kernel_rfl
        have c33 : Try.prog.cellsOf 32 = 1 := by kernel_rfl
        simp [c3, c32, c33] at g0 g1 g2 g3
        have e0 := hcell 0 (by omega)
        have e1 := hcell 1 (by omega)
        have e2 := hcell 2 (by omega)
        have e3 := hcell 3 (by omega)
        rw [Deep.add_add] at e0 e1 e2 e3
        obtain ⟨n0, q0, _, _⟩ := DataW.trod_int Try.underlying3 g0
        obtain ⟨n1, q1, _, hw1⟩ := DataW.trod_int Try.underlying3 g1
        obtain ⟨zs, hzs⟩ := open_bytes g2
        obtain ⟨bs, hbs⟩ := open_keep g3
        simp at q0 q1 e0 e1 e2 e3
        subst q0 q1
        exact ⟨⟨n0, n1, v2, zs, v3, bs⟩, cell_lt e0, e0, e1, e2, e3, hzs, hbs, hw1⟩
    obtain ⟨O, hO⟩ := @Deep.choose_lt OpA ⟨⟨0, 0, .slice none 0 0, [], .slice none 0 0, []⟩⟩ _ _ each
    exact ⟨O, fun i hi => ⟨y, rfl, hO i hi⟩⟩
end

end Go.Proofs.Yteehphmedmplkaa.st
