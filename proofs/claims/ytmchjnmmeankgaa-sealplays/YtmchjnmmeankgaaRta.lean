/- The contract of the document's Draw. -/
import Derived.Test.YtmchjnmmeankgaaTap
namespace Go.Proofs.Ytmchjnmmeankgaa.st
open Go.ChangeShapes Go.WideShapes Go.ChangeAt Go.RowKit Go.Proofs.Ytmchjnmmeankgaa.hp Go.Proofs.Ytmchjnmmeankgaa.dg
set_option linter.unusedVariables false

/-- The row behind k rounds: the first k bytes drawn, zeros behind. -/
def fillOf (zs : List Int) (d n k : Nat) : List Value := (padsOf zs d k).map (Value.int .u8) ++ List.replicate (n - k) (Value.int .u8 0)

theorem fillOf_zero (zs : List Int) (d n : Nat) : fillOf zs d n 0 = (madeCells #[Value.int .u8 0] n).toList := by
  rw [toList_madeCells_one]; simp [fillOf, padsOf]

theorem fillOf_all (zs : List Int) (d n : Nat) : fillOf zs d n n = (padsOf zs d n).map (Value.int .u8) := by simp [fillOf]

theorem padsOf_succ (zs : List Int) (d k : Nat) : padsOf zs d (k + 1) = padsOf zs d k ++ [zs.getD (d + k) 0] := by
  simp [padsOf, List.range_succ]

theorem fillOf_set (zs : List Int) (d n k : Nat) (hk : k < n) : (fillOf zs d n k).set k (Value.int .u8 (zs.getD (d + k) 0)) = fillOf zs d n (k + 1) := by
  unfold fillOf
  rw [padsOf_succ, show n - k = (n - (k + 1)) + 1 by omega, List.replicate_succ, List.map_append, List.append_assoc]
  rw [List.set_append_right _ _ (by simp [padsOf_length])]
  simp [padsOf_length]

theorem fillOf_skip (zs : List Int) (d n k : Nat) (hk : k < n) (hz : zs.length ≤ d + k) : fillOf zs d n k = fillOf zs d n (k + 1) := by
  unfold fillOf
  rw [padsOf_succ, show n - k = (n - (k + 1)) + 1 by omega, List.replicate_succ, List.map_append, List.append_assoc]
  simp [List.getElem?_eq_none hz]

theorem fillOf_length (zs : List Int) (d n k : Nat) (hk : k ≤ n) : (fillOf zs d n k).length = n := by
  simp [fillOf, padsOf_length]; omega

theorem cell_in {w : World} {g k : Nat} {xs : List Value} {t : TypeId} (h : w.heap[g]? = some (.cells xs.toArray t (0, 0))) (hk : k < xs.length) : (∃ u, w.cell? ⟨g, k, none⟩ = some u) ∧ w.frozen? ⟨g, k, none⟩ = false := by
  simp [World.cell?, World.frozen?, h, hk]

theorem cells2 {w : World} {p : Nat} {a b : Value} {t : TypeId} (h : w.heap[p]? = some (.cells #[a, b] t (0, 0))) :
    w.cell? ⟨p, 0, none⟩ = some a ∧ w.cell? ⟨p, 1, none⟩ = some b ∧ w.frozen? ⟨p, 1, none⟩ = false := by
  simp [World.cell?, World.frozen?, h]

/-- The document's tape at block q; its bytes lie in the blocks of J. -/
structure Rpe (J : Nat → Prop) (w : World) (q : Nat) (v : Value) (d : Nat) (zs : List Int) : Prop where
  blk : w.heap[q]? = some (.cells #[v, .int .i64 d] 37 (0, 0))
  row : Lies J w v (zs.map (Value.int .u8))
  off : ¬ J q
  len : zs.length ≤ 100000

theorem Rpe.chg {F J : Nat → Prop} {w w' : World} {q d : Nat} {v : Value} {zs : List Int} (h : Rpe J w q v d zs) (k : Chg F w w') (h1 : ¬ F q) (h2 : ∀ b, J b → ¬ F b) : Rpe J w' q v d zs :=
  ⟨k.heap h.blk h1, h.row.chg k h2, h.off, h.len⟩

/-- What the document's Draw leaves. -/
def Rdrawn (J : Nat → Prop) (w : World) (q : Nat) (v : Value) (d n : Nat) (zs : List Int) (e : Ending) (w' : World) : Prop :=
  e = .returned (.slice (some ⟨w.heap.size, 0, none⟩) n n) ∧ w'.heap[w.heap.size]? = some (.cells ((padsOf zs d n).map (Value.int .u8)).toArray 5 (0, 0)) ∧ Rpe J w' q v (d + n) zs ∧ Chg (fun k => k = q) w w'

set_option maxRecDepth 100000 in
set_option maxHeartbeats 2000000 in
theorem rdraw_any {J : Nat → Prop} {w : World} {q d : Nat} {v : Value} {zs : List Int} (h : Rpe J w q v d zs) (hd : d ≤ 100000000) (n : Nat) (h1 : 1 ≤ n) (h2 : n ≤ 1048576) :
    Calls Try.prog 38 #[.pointer (some ⟨q, 0, none⟩), .int .i64 n] w (Rdrawn J w q v d n zs) := by
  obtain ⟨i0, hi0, hz0, hz1, hz2⟩ := info_parts info5
  have hn1 : (1 : Int) ≤ n := by omega
  have hn2 : (n : Int) ≤ 1048576 := by omega
  have hb := h.blk
  have hlen := h.len
  have HH : Hid (Rpe J w q v d zs) := h
  obtain ⟨a, c, rfl, _⟩ := h.row.slice
  simp only [List.length_map] at hb HH ⊢
  have hli : (zs.length : Int) ≤ 100000 := by omega
  have hps : q < w.heap.size := lt_of_block hb
  clear h
  go_enter Try.func38, Try.ntmps38
  go_wp2_with (at_make; refine wpList_make_full _ rfl _ _ 22 rfl w.heap.size 5 i0 (.int .u8 0) 1 Try.underlying22 hi0 hz0 hz1 .i64 .i64 n n n rfl rfl rfl rfl ?c1 ?c2 ?c3 ?_)
  case c1 => rw [hz2]; omega
  case c2 => unfold maxLen; omega
  case c3 => omega
  intro w1 hown hg
  have G1 := (row_whole hown).1
  have C1 : Chg no w w1 := (Chg.refl no w).grown hg (by simp)
  clear hown hg
  go_wp2_with fail
  go_loopw [6] (fun i wr => ∃ k : Nat, k ≤ n ∧ i = .int .i64 k ∧ wr.heap[w.heap.size]? = some (.cells (fillOf zs d n k).toArray 5 (0, 0)) ∧ Chg no w wr) (fun i _ => n - (intOf i).toNat)
  case atStart => exact ⟨0, by omega, rfl, by rw [fillOf_zero]; simpa using G1, C1⟩
  case round =>
    obtain ⟨k, hk, rfl, G, C⟩ := hrel
    clear G1 C1
    have hbr := C.heap hb id
    obtain ⟨c0, c1, f1⟩ := cells2 hbr
    by_cases hkn : k < n
    · have hki : (k : Int) < n := by omega
      by_cases hdk : d + k < zs.length
      · have hdi : (d : Int) + k < zs.length := by omega
        obtain ⟨x, hx, hc⟩ := lies_at (HH.out.row.chg C (fun _ _ h => h)) (d + k) hdk
        subst hx
        obtain ⟨⟨u0, cu⟩, fu⟩ := cell_in G (show k < (fillOf zs d n k).length by rw [fillOf_length zs d n k hk]; exact hkn)
        have G' := row_set G k (.int .u8 (zs.getD (d + k) 0))
        rw [fillOf_set zs d n k hkn] at G'
        have C' := C.setCell ⟨w.heap.size, k, none⟩ (.int .u8 (zs.getD (d + k) 0)) (.inr (Nat.le_refl _))
        have HG : Hid _ := G'
        have HC : Hid _ := C'
        generalize zs.getD (d + k) 0 = z at hc HG HC
        clear G G' C C' hbr
        go_wp2_with fail
        go_quiet (fail)
        go_wp2_with fail
        go_region
        all_goals go_wp2
        all_goals go_roundw
        case rel => exact ⟨k + 1, by omega, by go_num, HG.out, HC.out.drewN (nq + 1)⟩
        case measure => simp [intOf]; omega
      · have hdi : (zs.length : Int) ≤ (d : Int) + k := by omega
        rw [fillOf_skip zs d n k hkn (by omega)] at G
        clear hbr
        go_wp2_with fail
        go_quiet (fail)
        go_wp2
        go_roundw
        case rel => exact ⟨k + 1, by omega, by go_num, G, C.drewN nq⟩
        case measure => simp [intOf]; omega
    · have hki : (n : Int) ≤ (k : Int) := by omega
      have hkk : k = n := by omega
      subst hkk
      rw [fillOf_all] at G
      have hbs := row_set (xs := [_, _]) hbr 1 (.int .i64 ((d : Int) + k))
      have C2 := (C.of_no (fun b => b = q)).setCell ⟨q, 1, none⟩ (.int .i64 ((d : Int) + k)) (.inl rfl)
      have HB : Hid _ := hbs
      have HC : Hid _ := C2
      clear hbr hbs C C2
      go_wp2
      go_ret
      refine ⟨rfl, ?_, ⟨?_, ?_, HH.out.off, HH.out.len⟩, HC.out⟩
      · exact (Below.heap_setCell _ _ _ _ (by simp; omega)).trans G
      · have := HB.out
        rw [show ((d + k : Nat) : Int) = (d : Int) + k by omega]
        exact this
      · exact HH.out.row.chg HC.out (fun b hb e => HH.out.off (by rw [← e]; exact hb))

end Go.Proofs.Ytmchjnmmeankgaa.st
