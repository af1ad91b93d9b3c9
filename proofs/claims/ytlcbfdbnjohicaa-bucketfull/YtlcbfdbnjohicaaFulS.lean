/- Blocks that BucketFull makes. -/
import Derived.Test.YtlcbfdbnjohicaaArg
namespace Go.Proofs.Ytlcbfdbnjohicaa.st
open Go.ChangeShapes Go.WideShapes Go.ChangeAt Go.RowKit Go.Proofs.Ytlcbfdbnjohicaa.hp Go.Proofs.Ytlcbfdbnjohicaa.dg
set_option linter.unusedVariables false

/-- The data of the k-th block: zeros, and one byte. -/
def dat (c : Int) (k : Nat) : List Int := (List.replicate 37 0).set k c

/-- The blocks. -/
def mkL (c : Int) (k : Nat) : List Bk := (List.range k).map fun (i : Nat) => (9 - (i : Int), dat c i)

theorem dat_len (c : Int) (k : Nat) : (dat c k).length = 37 := by simp [dat]

theorem dat_bytes {c : Int} (hc : 0 ≤ c ∧ c ≤ 255) (k : Nat) : Bytes (dat c k) := by
  intro x hx
  rcases List.mem_or_eq_of_mem_set hx with h | h
  · exact bytes_rep 37 x h
  · subst h
    exact hc

theorem mk_len (c : Int) (k : Nat) : (mkL c k).length = k := by simp [mkL]

theorem mk_succ (c : Int) (k : Nat) : mkL c (k + 1) = mkL c k ++ [(9 - (k : Int), dat c k)] := by simp [mkL, List.range_succ]

theorem mk_take (c : Int) (k : Nat) : (mkL c (k + 1)).take k = mkL c k := by
  rw [mk_succ, List.take_append_of_le_length (by rw [mk_len]; omega), List.take_of_length_le (by rw [mk_len]; omega)]

theorem mk_may (c : Int) (k : Nat) (hk : k ≤ 5) : mayP (mkL c k) := by
  refine ⟨fun b hb => ?_, ?_⟩
  · obtain ⟨i, hi, rfl⟩ := List.mem_map.1 hb
    have := List.mem_range.1 hi
    exact ⟨by simp only; omega, by simp only; omega, dat_len c i⟩
  · have e : (mkL c k).map (·.1) = (List.range k).map fun (i : Nat) => 9 - (i : Int) := by simp [mkL]
    rw [e]
    have hc : k = 0 ∨ k = 1 ∨ k = 2 ∨ k = 3 ∨ k = 4 ∨ k = 5 := by omega
    rcases hc with rfl | rfl | rfl | rfl | rfl | rfl <;> decide

theorem enc_full (c : Int) (Z : Nat) (h1 : 1 ≤ Z) (h2 : Z ≤ 4) : encL (Z : Int) (mkL c (Z + 1)) = ([], 4) := by
  unfold encL
  rw [if_pos ⟨by omega, by omega, mk_may c (Z + 1) (by omega)⟩, if_neg (by rw [mk_len]; omega)]

theorem enc_fits (c : Int) (Z : Nat) (h1 : 1 ≤ Z) (h2 : Z ≤ 4) : (encL (Z : Int) (mkL c Z)).2 = 0 := by
  rw [enc_of (by omega) (by omega) (mk_may c Z (by omega)) (by rw [mk_len]; omega)]

theorem enc_not {z : Int} {l : List Bk} (h : ¬ mayP l) : encL z l = ([], 1) := by
  unfold encL
  rw [if_neg (fun k => h k.2.2)]

theorem not_twice (b : Bk) : ¬ mayP [b, b] := fun h => by simpa using h.2
theorem not_short (i : Int) (d : List Int) (h : d.length ≠ 37) : ¬ mayP [(i, d)] := fun k => h (k.1 (i, d) (by simp)).2.2
theorem not_id (d : List Int) : ¬ mayP [(64, d)] := fun k => by have := (k.1 _ (List.mem_singleton.2 rfl)).2.1; simp only at this; omega

theorem Bks.take {w : World} {a : Option Addr} {n c : Nat} {xs : List BV} (h : Bks w (.slice a n c) xs) (z : Nat) (hz : z ≤ xs.length) (hz0 : z ≠ 0) : Bks w (.slice a z c) (xs.take z) := by
  have hl : (xs.take z).length = z := by rw [List.length_take]; omega
  refine ⟨?_, fun x hx => h.dat x (List.mem_of_mem_take hx)⟩
  rw [hl]
  rcases h.row with ⟨_, h0, _⟩ | ⟨y, cp, hv, hJ, hc⟩
  · omega
  · cases hv
    have e : xs.flatMap fb = (xs.take z).flatMap fb ++ (xs.drop z).flatMap fb := by rw [← List.flatMap_append, List.take_append_drop]
    refine .inr ⟨y, c, rfl, fun hne => hJ (fun e0 => ?_), fun i u hu => hc i u ?_⟩
    · rw [e] at e0
      exact hne (List.append_eq_nil_iff.1 e0).1
    · rw [e, List.getElem?_append_left (List.getElem?_eq_some_iff.1 hu).1]
      exact hu

theorem bks_two {w : World} {g : Nat} {i : Int} {v : Value} {d : List Int} {t : TypeId} (h : w.heap[g]? = some (.cells #[.int .i64 i, v, .int .i64 i, v] t (0, 0))) (hv : Lies (Old w) w v (d.map (Value.int .u8))) (hb : Bytes d) : Bks w (.slice (some ⟨g, 0, none⟩) 2 2) [⟨i, v, d⟩, ⟨i, v, d⟩] := by
  refine ⟨?_, fun x hx => ?_⟩
  · refine lie_fn (xs := [⟨i, v, d⟩, ⟨i, v, d⟩]) (cap := 2) (fun j hj => ?_)
    have e0 := (row_cell (xs := [_, _, _, _]) h 0 _ rfl).1
    have e1 := (row_cell (xs := [_, _, _, _]) h 1 _ rfl).1
    have e2 := (row_cell (xs := [_, _, _, _]) h 2 _ rfl).1
    have e3 := (row_cell (xs := [_, _, _, _]) h 3 _ rfl).1
    have hj2 : j = 0 ∨ j = 1 := by simp at hj; omega
    rcases hj2 with rfl | rfl
    · exact ⟨by simpa [Addr.add] using e0, by simpa [Addr.add] using e1⟩
    · exact ⟨by simpa [Addr.add] using e2, by simpa [Addr.add] using e3⟩
  · simp at hx
    subst hx
    exact ⟨hv, hb⟩

/-- The blocks made so far. -/
structure Ful (w : World) (c : Int) (k : Nat) (xs : List BV) (D : Nat → Prop) (u : Value) (wr : World) : Prop where
  row : NewB 46 no w D xs u wr
  told : abs xs = mkL c k
  shp : ∀ x ∈ xs, ∃ g, x.v = .slice (some ⟨g, 0, none⟩) 37 37

theorem Ful.len {w wr : World} {c : Int} {k : Nat} {xs : List BV} {D : Nat → Prop} {u : Value} (h : Ful w c k xs D u wr) : xs.length = k := by
  rw [← abs_len, h.told, mk_len]

/-- A block more. -/
theorem Ful.step {w wr W1 : World} {c : Int} {k : Nat} {xs : List BV} {D : Nat → Prop} {u : Value} (h : Ful w c k xs D u wr) (hc : 0 ≤ c ∧ c ≤ 255) (hk : k < 37) (hW : W1 = wr.alloc (.cells ((madeCells #[Value.int .u8 0] 37).setIfInBounds k (.int .u8 c)) 5)) :
    ∃ a' c' XS, u = .slice a' k c' ∧ (W1.alloc (.cells #[.int .i64 (9 - (k : Int)), .slice (some ⟨wr.heap.size, 0, none⟩) 37 37] 46)).ownsRow 0 46 2 (.slice a' k c') k XS ∧
      ∀ v5 w5, w5.ownsRow 0 46 2 v5 (k + 1) (XS ++ [.int .i64 (9 - (k : Int)), .slice (some ⟨wr.heap.size, 0, none⟩) 37 37]) → (W1.alloc (.cells #[.int .i64 (9 - (k : Int)), .slice (some ⟨wr.heap.size, 0, none⟩) 37 37] 46)).grownBy w5 (Value.slice a' k c').ownBlock → (∀ b, v5.ownBlock = some b → (Value.slice a' k c').ownBlock = some b ∨ (W1.alloc (.cells #[.int .i64 (9 - (k : Int)), .slice (some ⟨wr.heap.size, 0, none⟩) 37 37] 46)).heap.size ≤ b) → ∃ xs' D', Ful w c (k + 1) xs' D' v5 w5 := by
  obtain ⟨a', c', m, XS, rfl, hm, ho, hadd⟩ := h.row.ready
  have hmk : m = k := by rw [hm, h.len]
  subst hmk
  have hb1 : W1.heap[wr.heap.size]? = some (.cells ((dat c m).map (Value.int .u8)).toArray 5 (0, 0)) := by
    have e : (madeCells #[Value.int .u8 0] 37).setIfInBounds m (.int .u8 c) = ((dat c m).map (Value.int .u8)).toArray := by
      rw [made_eq, List.setIfInBounds_toArray, dat, List.map_set]
    rw [hW, e]
    exact heap_alloc_new _ _
  have K1 : Chg no wr W1 := by
    rw [hW]
    exact (Chg.refl no wr).alloc _
  have K2 : Chg no wr (W1.alloc (.cells #[.int .i64 (9 - (m : Int)), .slice (some ⟨wr.heap.size, 0, none⟩) 37 37] 46)) := K1.alloc _
  have hz1 : wr.heap.size < W1.heap.size := lt_of_block hb1
  have hz2 : W1.heap.size ≤ (W1.alloc (.cells #[.int .i64 (9 - (m : Int)), .slice (some ⟨wr.heap.size, 0, none⟩) 37 37] 46)).heap.size := by simp
  have hL := (lies_block hb1 37).chg ((Chg.refl no W1).alloc (.cells #[.int .i64 (9 - (m : Int)), .slice (some ⟨wr.heap.size, 0, none⟩) 37 37] 46)) (fun _ _ h => h)
  simp only [List.length_map, dat_len] at hL
  refine ⟨a', c', XS, rfl, ho _ K2, fun v5 w5 o5 g5 n5 => ⟨xs ++ [⟨9 - (m : Int), .slice (some ⟨wr.heap.size, 0, none⟩) 37 37, dat c m⟩], fun b => D b ∨ b = wr.heap.size, ?_, ?_, ?_⟩⟩
  · refine hadd ⟨9 - (m : Int), .slice (some ⟨wr.heap.size, 0, none⟩) 37 37, dat c m⟩ (fun b => D b ∨ b = wr.heap.size) _ v5 w5 K2 (hL.mono (fun b hb => .inr hb)) (dat_bytes hc m) (fun b hb => .inl hb) ?_ o5 g5 n5
    rintro b (hb | rfl)
    · exact .inl hb
    · exact .inr ⟨by omega, by omega⟩
  · rw [mk_succ, ← h.told]
    simp [abs, BV.bk]
  · intro x hx
    rcases List.mem_append.1 hx with hx | hx
    · exact h.shp x hx
    · simp at hx
      subst hx
      exact ⟨_, rfl⟩

/-- The row itself, its first block. -/
theorem Ful.at {w wr : World} {c : Int} {k : Nat} {xs : List BV} {D : Nat → Prop} {u : Value} (h : Ful w c (k + 1) xs D u wr) : ∃ g cp g0, u = .slice (some ⟨g, 0, none⟩) (k + 1) cp ∧ k + 1 ≤ cp ∧ cp ≤ maxLen ∧
    (∀ W, Chg no wr W → W.cell? ⟨g, 0, none⟩ = some (.int .i64 9) ∧ W.cell? ⟨g, 1, none⟩ = some (.slice (some ⟨g0, 0, none⟩) 37 37) ∧ Lies (Old W) W (.slice (some ⟨g0, 0, none⟩) 37 37) ((dat c 0).map (Value.int .u8))) ∧ g < wr.heap.size := by
  have hl := h.len
  rcases h.row.row.2 with ⟨_, h0⟩ | ⟨g, cap, cur, e, hb, hg, hc, hm, hs, ht⟩
  · omega
  · subst e
    rw [hl]
    match xs, hl, h with
    | x :: xs, hl, h =>
      obtain ⟨g0, hg0⟩ := h.shp x (by simp)
      have ht := h.told
      have e : mkL c (k + 1) = (9, dat c 0) :: ((List.range k).map fun (i : Nat) => (9 - ((i + 1 : Nat) : Int), dat c (i + 1))) := by
        unfold mkL
        rw [List.range_succ_eq_map, List.map_cons, List.map_map]
        rfl
      rw [e] at ht
      have hx : x.bk = (9, dat c 0) := by
        have := congrArg List.head? ht
        simpa [abs] using this
      have hi : x.id = 9 := congrArg Prod.fst hx
      have hd : x.d = dat c 0 := congrArg Prod.snd hx
      have cells := h.row.row.cells rfl
      have c0 := cells 0 (.int .i64 9) (by simp [fb, hi])
      have c1 := cells 1 x.v (by simp [fb])
      have hD := (h.row.bks.dat x (by simp)).1
      rw [hg0] at hD c1
      rw [hd] at hD
      simp only [List.length_cons] at hl
      have hc' : k + 1 ≤ cap := by
        simp only [List.length_cons] at hc
        omega
      refine ⟨g, cap, g0, rfl, hc', hm, fun W K => ⟨?_, ?_, Lies.later hD K⟩, lt_of_block hg⟩
      · exact K.cell (by simpa [Addr.add] using c0) id
      · exact K.cell (by simpa [Addr.add] using c1) id

end Go.Proofs.Ytlcbfdbnjohicaa.st
