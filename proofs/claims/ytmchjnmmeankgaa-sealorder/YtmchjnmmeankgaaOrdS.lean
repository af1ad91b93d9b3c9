/- The oracle within the law SealOrder. -/
import Derived.Test.YtmchjnmmeankgaaDdp
namespace Go.Proofs.Ytmchjnmmeankgaa.st
open Go.ChangeShapes Go.WideShapes Go.ChangeAt Go.RowKit Go.Proofs.Ytmchjnmmeankgaa.hp Go.Proofs.Ytmchjnmmeankgaa.dg
set_option linter.unusedVariables false

/-- The oracle in the law: its state, and the bytes at block T. -/
structure OrdAt (w : World) (p q T : Nat) (S : OS) (f : List Int) (wr : World) : Prop where
  orc : ∃ F, Orc p q S wr F ∧ ∀ k, F k → w.heap.size ≤ k ∧ k ≠ T
  chg : Chg no w wr
  blk : wr.heap[T]? = some (.cells (f.map (Value.int .u8)).toArray 5 (0, 0))

theorem OrdAt.same {w wr w' : World} {p q T : Nat} {S : OS} {f : List Int} (h : OrdAt w p q T S f wr) (k : Chg no wr w') : OrdAt w p q T S f w' := by
  obtain ⟨F, h1, h2⟩ := h.orc
  exact ⟨⟨F, h1.chg k (fun _ _ h => h), h2⟩, h.chg.then k, k.heap h.blk id⟩

theorem OrdAt.known {w wr : World} {p q T : Nat} {S : OS} {f : List Int} (h : OrdAt w p q T S f wr) (g c : Int) (hn : Fits (g, c)) :
    Calls Try.prog 21 #[.pointer (some ⟨p, 0, none⟩), nv g c] wr fun e w' => e = .returned (.bool (S.knows (g, c))) ∧ OrdAt w p q T S f w' := by
  obtain ⟨F, h1, h2⟩ := h.orc
  refine (known_any h1 g c hn).mono ?_
  rintro e w' ⟨rfl, k⟩
  exact ⟨rfl, h.same k⟩

theorem OrdAt.pad {w wr : World} {p q T : Nat} {S : OS} {f : List Int} (h : OrdAt w p q T S f wr) (hok : S.Ok) (g c : Int) (hn : Fits (g, c)) :
    Calls Try.prog 19 #[.pointer (some ⟨p, 0, none⟩), nv g c] wr fun e w' => ∃ v, e = .returned v ∧ OrdAt w p q T (S.ask (g, c)) f w' ∧ Lies (fun _ => True) w' v (((S.ask (g, c)).padOf (g, c)).map (Value.int .u8)) := by
  obtain ⟨F, h1, h2⟩ := h.orc
  refine (pad_any h1 hok g c hn).mono ?_
  rintro e w' ⟨v, rfl, F', h3, h4, h5, h6⟩
  have hT := lt_of_block h.blk
  have s := h.chg.size
  refine ⟨v, rfl, ⟨⟨F', h3, fun k hk => ?_⟩, h.chg.trans h6 (fun k hk => .inr (h2 k hk).1), h6.heap h.blk (fun e => (h2 T e).2 rfl)⟩, h5.mono (fun _ _ => trivial)⟩
  rcases (h4 k hk).1 with e | e
  · exact h2 k e
  · exact ⟨by omega, by omega⟩

theorem OrdAt.drawn {w wr : World} {p q T : Nat} {S : OS} {f : List Int} (h : OrdAt w p q T S f wr) : wr.cell? ⟨p, 0, none⟩ = some (.pointer (some ⟨q, 0, none⟩)) ∧ q < wr.heap.size ∧ p < wr.heap.size ∧ Calls Try.prog 23 #[.pointer (some ⟨q, 0, none⟩)] wr fun e w' => e = .returned (.int .i64 ((S.ks.length * S.L : Nat) : Int)) ∧ w' = wr := by
  obtain ⟨F, h1, h2⟩ := h.orc
  obtain ⟨t0, t1, tv, T⟩ := h1.tape
  exact ⟨t0, t1, h1.plt, drawn_any T⟩

/-- A piece of what stands at block T. -/
theorem OrdAt.piece {w wr : World} {p q T : Nat} {S : OS} {f : List Int} (h : OrdAt w p q T S f wr) (at' L c : Nat) (hl : at' + L ≤ f.length) : Lies (fun _ => True) wr (.slice (some ⟨T, at', none⟩) L c) (((f.drop at').take L).map (Value.int .u8)) := by
  refine .inr ⟨⟨T, at', none⟩, c, by simp; omega, fun _ => trivial, fun i u hu => ?_⟩
  rw [List.map_take, List.getElem?_take] at hu
  split at hu
  · rw [List.map_drop, List.getElem?_drop] at hu
    rw [Addr.add_lit]
    exact (row_cell h.blk (at' + i) u hu).1
  · cases hu

/-- A piece of the bytes with zeros behind them. -/
theorem fit_piece (zs : List Int) (M at' L : Nat) (h : at' + L ≤ M) (hz : zs.length ≤ M) : ((fit zs M).drop at').take L = padsOf zs at' L := by
  apply list_at
  · rw [List.length_take, List.length_drop, fit_length, padsOf_length]
    omega
  · intro i hi
    rw [List.length_take, List.length_drop, fit_length] at hi
    rw [padsOf_at _ _ _ _ (by omega), List.getD_eq_getElem?_getD, List.getElem?_take, if_pos (by omega), List.getElem?_drop]
    unfold fit fill
    rw [List.take_of_length_le hz, List.getD_eq_getElem?_getD, List.getElem?_append]
    split
    · rfl
    · rename_i hlt
      rw [List.getElem?_replicate, if_pos (by omega), List.getElem?_eq_none (by omega)]
      rfl

/-- The state behind i nonces. -/
def ordS (zs : List Int) (L : Nat) (P : Nat → Int × Int) (i : Nat) : OS := ⟨zs, L, dd P i, []⟩

theorem ordS_ask (zs : List Int) (L : Nat) (P : Nat → Int × Int) (i : Nat) : (ordS zs L P i).ask (P i) = ordS zs L P (i + 1) := by
  unfold OS.ask ordS
  rw [dd]

theorem ordS_ok (zs : List Int) (L : Nat) (P : Nat → Int × Int) (i : Nat) (h1 : 1 ≤ L) (h2 : L ≤ 4000) (hi : i ≤ 1000) : (ordS zs L P i).Ok :=
  ⟨h1, h2, by have := dd_len P i; show (dd P i).length ≤ 1000; omega, by simp [ordS]⟩

end Go.Proofs.Ytmchjnmmeankgaa.st
