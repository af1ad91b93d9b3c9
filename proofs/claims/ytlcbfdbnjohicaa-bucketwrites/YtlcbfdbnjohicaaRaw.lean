/- The contract of the writer's Raw. -/
import Derived.Test.YtlcbfdbnjohicaaNum
namespace Go.Proofs.Ytlcbfdbnjohicaa.st
open Go.ChangeShapes Go.WideShapes Go.ChangeAt Go.RowKit Go.Proofs.Ytlcbfdbnjohicaa.hp Go.Proofs.Ytlcbfdbnjohicaa.dg
set_option linter.unusedVariables false

theorem flat_take (l : List (List Int)) (j : Nat) : (l.take j).flatten.length ≤ l.flatten.length := by
  have h : l.flatten = (l.take j).flatten ++ (l.drop j).flatten := by
    rw [← List.flatten_append, List.take_append_drop]
  rw [h]
  simp

theorem flat_succ (l : List (List Int)) (j : Nat) (hj : j < l.length) : (l.take (j + 1)).flatten = (l.take j).flatten ++ l.getD j [] := by
  rw [List.take_succ_eq_append_getElem hj, List.flatten_append]
  simp [List.getD_eq_getElem?_getD, List.getElem?_eq_getElem hj]

/-- A part: the slice, and the bytes that it shows. -/
abbrev Part := Value × List Int
def dP : Part := (.slice none 0 0, [])

set_option maxHeartbeats 2000000 in
theorem raw_any {w : World} {p : Nat} {F J : Nat → Prop} {s : WS} (h : Wri w p F s.1 s.2) (v : Value) (P : List Part) (hv : Lies J w v (P.map (·.1))) (hP : ∀ x ∈ P, Lies J w x.1 (x.2.map (Value.int .u8))) (hJ : ∀ k, J k → ¬ F k ∧ k < w.heap.size) (hn : P.length ≤ 1000) (hl : s.1.length + ((P.map (·.2)).flatten).length ≤ 90000000) :
    Calls Try.prog 24 #[.pointer (some ⟨p, 0, none⟩), v] w fun e w' => e = .returned (.pointer (some ⟨p, 0, none⟩)) ∧ WAt w p F (raws s (P.map (·.2))) w' := by
  obtain ⟨x, c, rfl, hcell⟩ := hv.slice
  simp only [List.length_map]
  obtain ⟨bs, br⟩ := s
  cases br with
  | true =>
    have B0 := WAt.start h
    obtain ⟨v0, h0⟩ := h
    obtain ⟨c0, c1, c2, c3⟩ := h0.cells
    simp only at c1
    clear h0 c0 c2 c3
    go_enter Try.func24, Try.ntmps24
    go_wp2
    go_ret
    exact ⟨rfl, by simpa [raws] using B0⟩
  | false =>
    have HJ : Hid (∀ wr, Chg F w wr → ∀ j, j < P.length → ∃ y, x = some y ∧ wr.cell? (y.add j) = some (P.getD j dP).1 ∧ Lies J wr (P.getD j dP).1 ((P.getD j dP).2.map (Value.int .u8))) := by
      intro wr hC j hj
      have e : P.getD j dP = P[j] := by simp [List.getD_eq_getElem?_getD, List.getElem?_eq_getElem hj]
      obtain ⟨y, hy, hy2, hy3⟩ := hcell j (P.getD j dP).1 (by rw [List.getElem?_map, e, List.getElem?_eq_getElem hj]; rfl)
      refine ⟨y, hy, hC.cell hy3 (by rw [add_block]; exact (hJ _ hy2).1), ?_⟩
      exact (hP _ (by rw [e]; exact List.getElem_mem _)).chg hC (fun k hk => (hJ k hk).1)
    have hni : (P.length : Int) ≤ 1000 := by omega
    have HL : Hid (∀ j, j < P.length → (bs ++ ((P.map (·.2)).take j).flatten).length + (P.getD j dP).2.length ≤ 90000000 ∧ bs ++ ((P.map (·.2)).take (j + 1)).flatten = (bs ++ ((P.map (·.2)).take j).flatten) ++ (P.getD j dP).2) := by
      intro j hj
      have e1 := flat_take (P.map (·.2)) (j + 1)
      have e2 := flat_succ (P.map (·.2)) j (by simpa using hj)
      have e3 : (P.map (·.2)).getD j [] = (P.getD j dP).2 := by simp [List.getD_eq_getElem?_getD, List.getElem?_eq_getElem hj]
      rw [e3] at e2
      rw [e2] at e1 ⊢
      simp only [List.length_append, List.append_assoc] at e1 hl ⊢
      exact ⟨by omega, trivial⟩
    have B0 : Hid (WAt w p F (bs ++ ((P.map (·.2)).take 0).flatten, false) w) := by
      have := WAt.start h
      simpa [Hid] using this
    obtain ⟨v0, h0⟩ := h
    obtain ⟨c0, c1, c2, c3⟩ := h0.cells
    simp only at c1
    obtain ⟨i0, hi0, hz0, hz1, hz2⟩ := info_parts info5
    clear h0 c0 c2 c3 hcell hJ hP hv hl
    go_enter Try.func24, Try.ntmps24
    go_wp2_with fail
    go_loopw [14] (fun i wr => ∃ j : Nat, j ≤ P.length ∧ i = .int .i64 (j : Int) ∧ WAt w p F (bs ++ ((P.map (·.2)).take j).flatten, false) wr) (fun i _ => P.length - (intOf i).toNat)
    case atStart => exact ⟨0, by omega, rfl, B0.out⟩
    case round =>
      clear B0 c1
      obtain ⟨j, hj, rfl, hB⟩ := hrel
      by_cases hjn : j < P.length
      · have hji : (j : Int) < P.length := by omega
        obtain ⟨y, rfl, hc, hL⟩ := HJ.out wr hB.2 j hjn
        obtain ⟨hl1, hl2⟩ := HL.out j hjn
        have HS : Hid (∀ w', Wri w' p (Wid (Wid F w wr) wr w') ((bs ++ ((P.map (·.2)).take j).flatten) ++ (P.getD j dP).2) false → Chg (Wid F w wr) wr w' → WAt w p F (bs ++ ((P.map (·.2)).take (j + 1)).flatten, false) w') := by
          intro w' q1 q2
          rw [hl2]
          exact hB.step (s' := (_, false)) q1 q2
        obtain ⟨⟨v, hW⟩, hC⟩ := hB
        simp only at hW
        clear hl2
        obtain ⟨⟨pv, ps⟩, hp⟩ : ∃ X, P.getD j dP = X := ⟨_, rfl⟩
        obtain ⟨cur, hcur⟩ : ∃ cur, bs ++ ((P.map (·.2)).take j).flatten = cur := ⟨_, rfl⟩
        rw [hp] at hc hL hl1 HS
        rw [hcur] at hl1 HS hW
        simp only at hc hL hl1
        clear hp hcur
        obtain ⟨c0, c1, c2, c3⟩ := hW.cells
        obtain ⟨xa, xc, hva⟩ := owns_shape hW.own
        subst hva
        obtain ⟨pa, pc, hpv, _⟩ := hL.slice
        simp only [List.length_map] at hpv
        subst hpv
        have hpl := hW.lt p hW.fp
        have HEnd : Hid (∀ v5 w5, w5.ownsRow 0 5 1 v5 (cur.length + ps.length) (cur.map (Value.int .u8) ++ ps.map (Value.int .u8)) → wr.grownBy w5 (Value.slice xa cur.length xc).ownBlock → (∀ k', v5.ownBlock = some k' → (Value.slice xa cur.length xc).ownBlock = some k' ∨ wr.heap.size ≤ k') →
            w5.cell? ⟨p, 0, none⟩ = some (.slice xa cur.length xc) ∧ w5.frozen? ⟨p, 0, none⟩ = false ∧ WAt w p F (bs ++ ((P.map (·.2)).take (j + 1)).flatten, false) (w5.setCell ⟨p, 0, none⟩ v5)) := by
          intro v5 w5 o5 g5 n5
          have hC5 : Chg (fun k => (Value.slice xa cur.length xc).ownBlock = some k) wr w5 := (Chg.refl _ _).grown g5 (fun k hk => .inl hk)
          have n1 : ¬ (Value.slice xa cur.length xc).ownBlock = some p := fun e => (hW.vp p e).1 rfl
          have G := hW.grow (ys := cur ++ ps) (Chg.refl no wr) g5 (by simpa using o5) n5
          exact ⟨hC5.cell c0 n1, (World.frozen?_of_block (hC5.block p hpl n1)).trans c2, HS.out _ ⟨_, G.1⟩ G.2⟩
        have HO : Hid (wr.ownsRow 0 5 1 (.slice xa cur.length xc) cur.length (cur.map (Value.int .u8))) := hW.own
        have HLs : Hid (Lies J wr (.slice pa ps.length pc) (ps.map (Value.int .u8))) := hL
        clear hW hL HS
        go_wp2_with (at_builtin; refine wpList_append_lies rfl _ _ 25 rfl 5 i0 (.int .u8 0) 1 Try.underlying25 hi0 hz0 hz1 hz2 rfl (.slice xa cur.length xc) cur.length (cur.map (Value.int .u8)) rfl HO.out J (.slice pa ps.length pc) (ps.map (Value.int .u8)) rfl HLs.out (ints_oneCell _ _) ?c1 ?c2 ?_)
        case c1 => simp; unfold maxLen; omega
        case c2 => simp; omega
        intro v5 w5 o5 g5 n5
        obtain ⟨a5, c5, rfl⟩ := owns_shape o5
        obtain ⟨y1, y2, y3⟩ := HEnd.out _ _ o5 g5 n5
        clear HEnd
        go_wp2
        go_roundw
        case rel => exact ⟨j + 1, by omega, by go_num, y3⟩
        case measure => simp [intOf]; omega
      · obtain rfl : j = P.length := by omega
        have hji : (P.length : Int) ≤ (P.length : Int) := by omega
        go_wp2
        go_ret
        refine ⟨rfl, ?_⟩
        rw [List.take_of_length_le (by simp)] at hB
        simpa [raws] using hB

end Go.Proofs.Ytlcbfdbnjohicaa.st
