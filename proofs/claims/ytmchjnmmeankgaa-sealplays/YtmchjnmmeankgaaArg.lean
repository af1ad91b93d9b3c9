/- Cells that a law makes: a nonce's bytes and a text. -/
import Derived.Test.YtmchjnmmeankgaaFst
namespace Go.Proofs.Ytmchjnmmeankgaa.st
open Go.ChangeShapes Go.WideShapes Go.ChangeAt Go.RowKit Go.Proofs.Ytmchjnmmeankgaa.hp Go.Proofs.Ytmchjnmmeankgaa.dg
set_option linter.unusedVariables false

theorem owns_block {w : World} {b n : Nat} {zs : List Int} (h : w.heap[b]? = some (.cells (zs.map (Value.int .u8)).toArray 5 (0, 0))) (hn : zs.length = n) (hm : n ≤ maxLen) : w.ownsRow 0 5 1 (.slice (some ⟨b, 0, none⟩) n n) n (zs.map (Value.int .u8)) := by
  refine ⟨by simp [hn], .inr ⟨_, n, _, rfl, Nat.zero_le _, h, Nat.le_refl _, hm, by simp [hn], ?_⟩⟩
  rw [List.take_of_length_le (by simp [hn])]

/-- Bytes put behind others that are new. -/
theorem grew_new {w w2 w3 : World} {v v5 : Value} {n : Nat} {nb tx CZ : List Int} (k : Chg no w w2) (hv : ∀ b, v.ownBlock = some b → w.heap.size ≤ b) (hn : nb.length = n) (G : Grew 5 w2 w3 v v5 n (nb.map (Value.int .u8)) (tx.map (Value.int .u8))) (hC : nb ++ tx = CZ) : New w CZ v5 w3 := by
  have s := k.size
  have ho := G.own
  rw [← List.map_append, List.length_map, ← hn, ← List.length_append, hC] at ho
  refine ⟨⟨ho.1, ?_⟩, k.grown G.grown (fun b hb => .inr (hv b hb))⟩
  rcases ho.2 with hh | ⟨g, cap, cur, e, _, rest⟩
  · exact .inl hh
  · refine .inr ⟨g, cap, cur, e, ?_, rest⟩
    rcases G.place g (by rw [e]; rfl) with e2 | e2
    · exact hv g e2
    · omega

theorem cell_head {g c : Int} (hm : may g c = true) (tx : List Int) : cellG (nbs g c ++ tx) = g ∧ cellC (nbs g c ++ tx) = c := by
  have e1 : (nbs g c ++ tx).take 12 = nbs g c := by
    rw [List.take_append_of_le_length (Nat.le_of_eq (nbs_length g c).symm)]
    exact List.take_of_length_le (Nat.le_of_eq (nbs_length g c))
  unfold cellG cellC
  rw [e1]
  exact pg_nbs g c hm

theorem blank_zero {zs : List Int} {L : Nat} {c : Int} {tx : List Int} (hm : may 0 c = true) (hl : tx.length = L) : (OS.fresh zs L).code (nbs 0 c ++ tx) = 0 ∧ (OS.fresh zs L).text (nbs 0 c ++ tx) = List.replicate L 0 := by
  obtain ⟨e1, e2⟩ := cell_head hm tx
  have hl : ¬ ((nbs 0 c ++ tx).length ≠ 12 + (OS.fresh zs L).L) := by rw [List.length_append, nbs_length, hl]; simp [OS.fresh]
  have hm2 : ¬ (may 0 c = false) := by simp [hm]
  unfold OS.code OS.text
  simp only [e1, e2, if_neg hl, if_neg hm2, if_true]
  exact ⟨trivial, rfl⟩

theorem blank_none {zs : List Int} {L : Nat} {g c : Int} {tx : List Int} (hg : g ≠ 0) (hm : may g c = true) (hl : tx.length = L) : (OS.fresh zs L).code (nbs g c ++ tx) = 5 ∧ (OS.fresh zs L).text (nbs g c ++ tx) = [] := by
  obtain ⟨e1, e2⟩ := cell_head hm tx
  have hl : ¬ ((nbs g c ++ tx).length ≠ 12 + (OS.fresh zs L).L) := by rw [List.length_append, nbs_length, hl]; simp [OS.fresh]
  have hm2 : ¬ (may g c = false) := by simp [hm]
  have hk : ¬ ((OS.fresh zs L).knows (g, c) = true) := by simp [OS.knows, OS.fresh]
  unfold OS.code OS.text
  simp only [e1, e2, if_neg hl, if_neg hm2, if_neg hg, if_neg hk]
  exact ⟨trivial, trivial⟩

theorem blank_form {zs : List Int} {L : Nat} {cz : List Int} (hl : cz.length ≠ 12 + L) : (OS.fresh zs L).code cz = 2 ∧ (OS.fresh zs L).text cz = [] := by
  have hl2 : cz.length ≠ 12 + (OS.fresh zs L).L := hl
  unfold OS.code OS.text
  rw [if_pos hl2, if_pos hl2]
  exact ⟨rfl, rfl⟩

theorem fit_bytes {zs : List Int} (h : Bytes zs) (n : Nat) : Bytes (fit zs n) := by
  unfold fit fill
  refine (h.take n).append ?_
  intro x hx
  have := List.eq_of_mem_replicate hx
  omega

/-- Open, of a cell in new memory. -/
theorem open_new {w0 w : World} {p q : Nat} {F : Nat → Prop} {S : OS} (h : Orc p q S w F) (hok : S.Ok) {x : Option Addr} {cx : Nat} {zs : List Int} (hz : zs.length ≤ 100000000) (hN : New w0 zs (.slice x zs.length cx) w) (hb : Bytes zs) :
    Calls Try.prog 17 #[.pointer (some ⟨p, 0, none⟩), .slice x zs.length cx] w (Opened S zs w) :=
  open_any h hok x cx zs hz hN.lies hb (cap_ge hN.1 rfl) (cap_le hN.1 rfl)

end Go.Proofs.Ytmchjnmmeankgaa.st
