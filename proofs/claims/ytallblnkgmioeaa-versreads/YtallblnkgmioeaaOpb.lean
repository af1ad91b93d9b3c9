/- What a law is told of bytes that came in. -/
import Derived.Test.YtallblnkgmioeaaArgs
import Derived.Test.YtallblnkgmioeaaByq
namespace Go.Proofs.Ytallblnkgmioeaa.st
open Go.ChangeShapes Go.WideShapes Go.ChangeAt Go.RowKit Go.Proofs.Ytallblnkgmioeaa.hp
set_option linter.unusedVariables false

section
variable {H : Type} {enc : TypeId × Value → H} {w : World} {base fuel : Nat} {x : DataW H × List MemPlace}

theorem open_bytes {v : Value} (h : DataW.trod enc Try.prog w base (fun _ => true) true fuel 36 [v] = some x) : ∃ zs : List Int, Lies (Old w) w v (zs.map (Value.int .u8)) ∧ Bytes zs := by
  rcases open_ints Try.underlying36 Try.underlying5 (by kernel_rfl) h with ⟨hcs, _⟩ | ⟨a, l, c, zs, hcs, _, hl, hm, hz, _, hcell, hwz⟩
  · simp at hcs
    subst hcs
    exact ⟨[], .inl ⟨rfl, rfl⟩, fun x hx => by simp at hx⟩
  · simp at hcs
    subst hcs
    simp at hz
    have hlen : ((zs.take l).map (Value.int .u8)).length = l := by simp; omega
    refine ⟨zs.take l, ?_⟩
    have : Lies (Old w) w (.slice (some a) ((zs.take l).map (Value.int .u8)).length c) ((zs.take l).map (Value.int .u8)) := by
      refine lies_fn (fun he => ?_) (fun i hi => ?_)
      · have h0 : 0 < l := by
          rw [← hlen]
          exact List.length_pos_iff.2 he
        exact cell_lt (hcell 0 (by omega))
      · rw [hlen] at hi
        have := hcell i (by omega)
        refine ⟨_, ?_, this⟩
        rw [List.getElem?_map, List.getElem?_take_of_lt hi, List.getElem?_eq_getElem (by omega), List.getD_eq_getElem?_getD, List.getElem?_eq_getElem (by omega)]
        rfl
    rw [hlen] at this
    exact ⟨this, fun x hx => bounds_u8 (hwz x (List.mem_of_mem_take hx))⟩

end

end Go.Proofs.Ytallblnkgmioeaa.st
