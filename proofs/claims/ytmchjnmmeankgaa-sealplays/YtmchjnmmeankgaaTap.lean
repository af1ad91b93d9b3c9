/- Contracts of the tape of pads: NewPads, Drawn, advance, Draw; of the document's Draw. -/
import Derived.Test.YtmchjnmmeankgaaXrs
namespace Go.Proofs.Ytmchjnmmeankgaa.st
open Go.ChangeShapes Go.WideShapes Go.ChangeAt Go.RowKit Go.Proofs.Ytmchjnmmeankgaa.hp Go.Proofs.Ytmchjnmmeankgaa.dg
set_option linter.unusedVariables false

/-- The bytes that are drawn: those of the tape, and 0 behind its end. -/
def padsOf (zs : List Int) (d n : Nat) : List Int := (List.range n).map fun i => zs.getD (d + i) 0

theorem padsOf_length (zs : List Int) (d n : Nat) : (padsOf zs d n).length = n := by simp [padsOf]

/-- The tape at block q: its bytes, and how many were drawn. -/
structure Tpe (w : World) (q : Nat) (v : Value) (d : Nat) (zs : List Int) : Prop where
  blk : w.heap[q]? = some (.cells #[.int .i64 zs.length, .int .i64 d, v] 61 (0, 0))
  row : w.ownsRow 0 5 1 v zs.length (zs.map (Value.int .u8))
  off : v.ownBlock ≠ some q
  len : zs.length ≤ 100000

theorem Tpe.chg {F : Nat → Prop} {w w' : World} {q d : Nat} {v : Value} {zs : List Int} (h : Tpe w q v d zs) (k : Chg F w w') (h1 : ¬ F q) (h2 : ∀ b, v.ownBlock = some b → ¬ F b) : Tpe w' q v d zs :=
  ⟨k.heap h.blk h1, k.owns h.row h2, h.off, h.len⟩

theorem Tpe.cells {w : World} {q d : Nat} {v : Value} {zs : List Int} (h : Tpe w q v d zs) : w.cell? ⟨q, 0, none⟩ = some (.int .i64 zs.length) ∧ w.cell? ⟨q, 1, none⟩ = some (.int .i64 d) ∧ w.cell? ⟨q, 2, none⟩ = some v ∧ w.frozen? ⟨q, 1, none⟩ = false := by
  have h := h.blk
  simp [World.cell?, World.frozen?, h]

theorem Tpe.step {w : World} {q d d' : Nat} {v : Value} {zs : List Int} (h : Tpe w q v d zs) (u : Int) (hu : u = (d' : Int)) : Tpe (w.setCell ⟨q, 1, none⟩ (.int .i64 u)) q v d' zs := by
  subst hu
  refine ⟨?_, ((Chg.refl (fun k => k = q) w).setCell _ _ (.inl rfl)).owns h.row (fun k hk e => h.off (by rw [hk, e])), h.off, h.len⟩
  have h1 := h.blk
  simp [World.setCell, Array.getElem?_modify, h1]

theorem newPads_any (a : Value) (zs : List Int) (J : Nat → Prop) (w : World) (h : Lies J w a (zs.map (Value.int .u8))) (hl : zs.length ≤ 100000) :
    Calls Try.prog 11 #[a] w fun e w' => ∃ q v, e = .returned (.pointer (some ⟨q, 0, none⟩)) ∧ Tpe w' q v 0 zs ∧ w.heap.size ≤ q ∧ (∀ k, v.ownBlock = some k → w.heap.size ≤ k ∧ k < q) ∧ Chg no w w' ∧ q < w'.heap.size := by
  have HC := clone_new a zs J w h (by omega)
  obtain ⟨x, c, rfl, _⟩ := h.slice
  simp only [List.length_map] at HC ⊢
  clear h
  go_enter Try.func11, Try.ntmps11
  go_wp2_with fail
  refine HC.mono ?_
  rintro e w1 ⟨v1, rfl, N1⟩
  obtain ⟨g, cg, rfl⟩ := N1.shape
  have HN : Hid (New w zs (.slice g zs.length cg) w1) := N1
  clear HC N1
  go_wp2
  go_ret
  refine ⟨_, .slice g zs.length cg, rfl, ⟨heap_alloc_new _ _, ?_, ?_, hl⟩, HN.out.2.size, fun k hk => HN.out.1.lt k hk, HN.out.2.alloc _, by simp⟩
  · exact owns_base (((Chg.refl no w1).alloc _).owns HN.out.1 (fun _ _ h => h)) (Nat.zero_le _)
  · intro e
    have := (HN.out.1.lt _ e).2
    omega

theorem drawn_any {w : World} {q d : Nat} {v : Value} {zs : List Int} (h : Tpe w q v d zs) :
    Calls Try.prog 23 #[.pointer (some ⟨q, 0, none⟩)] w fun e w' => e = .returned (.int .i64 d) ∧ w' = w := by
  obtain ⟨c0, c1, c2, f1⟩ := h.cells
  clear h
  go_enter Try.func23, Try.ntmps23
  go_wp2
  go_ret
  exact ⟨rfl, rfl⟩

theorem advance_any (p : Nat) (d n : Int) (w : World) (hd : w.cell? ⟨p, 1, none⟩ = some (.int .i64 d)) (hf : w.frozen? ⟨p, 1, none⟩ = false)
    (h0 : 0 ≤ d) (hn : 0 ≤ n) (hb : d + n ≤ 1000000000000) :
    Calls Try.prog 49 #[.pointer (some ⟨p, 0, none⟩), .int .i64 n] w fun e w' => e = .returned (.int .i64 d) ∧ w' = w.setCell ⟨p, 1, none⟩ (.int .i64 (d + n)) := by
  go_enter Try.func49, Try.ntmps49
  go_wp2
  go_ret
  exact ⟨rfl, rfl⟩

theorem pads_splice (zs : List Int) (d n : Nat) : splice ((madeCells #[Value.int .u8 0] n).toList) 0 (((zs.drop d).take n).map (Value.int .u8)) = (padsOf zs d n).map (Value.int .u8) := by
  rw [toList_madeCells_one]
  apply List.ext_getElem
  · simp [splice, padsOf]; omega
  · intro i h1 h2
    simp [splice, padsOf] at h1 h2 ⊢
    by_cases hi : i < min n (zs.length - d)
    · rw [List.getElem_append_left (by simpa using hi)]
      simp
      rw [List.getElem?_eq_getElem (by omega)]
      rfl
    · rw [List.getElem_append_right (by simp; omega)]
      simp
      rw [List.getElem?_eq_none (by omega)]
      rfl

theorem cap_ge {w : World} {base : Nat} {e : TypeId} {v : Value} {n c : Nat} {a : Option Addr} {xs : List Value} (h : w.ownsRow base e 1 v n xs) (hv : v = .slice a n c) : n ≤ c := by
  rcases h.2 with ⟨rfl, hn⟩ | ⟨g, cap, cur, rfl, _, _, hc, _⟩
  · omega
  · simp at hv; omega

theorem cap_le {w : World} {base : Nat} {e : TypeId} {v : Value} {n c : Nat} {a : Option Addr} {xs : List Value} (h : w.ownsRow base e 1 v n xs) (hv : v = .slice a n c) : c ≤ maxLen := by
  rcases h.2 with ⟨rfl, hn⟩ | ⟨g, cap, cur, rfl, _, _, hc, hm, _⟩
  · cases hv
    exact Nat.zero_le _
  · simp at hv; omega

theorem copy_pos {w : World} {q d' d n : Nat} {zs : List Int} {a : Option Addr} {c : Nat} (h : Tpe w q (.slice a zs.length c) d' zs) :
    0 < (((zs.drop d).take n).map (Value.int .u8)).length → ∃ ad, Option.map (fun x => x.add d) a = some ad ∧ ∀ (j : Nat) (u : Value), (((zs.drop d).take n).map (Value.int .u8))[j]? = some u → w.cell? (ad.add j) = some u := by
  intro hp
  simp at hp
  rcases h.row.2 with ⟨hv, hn⟩ | ⟨g, cap, cur, hv, hb, hg, hc, hm, hs, ht⟩
  · omega
  · simp at hv
    obtain ⟨rfl, rfl⟩ := hv
    refine ⟨_, rfl, fun j u hu => ?_⟩
    simp only [Addr.add_lit]
    rw [List.getElem?_map] at hu
    obtain ⟨z, hz, rfl⟩ := Option.map_eq_some_iff.1 hu
    rw [List.getElem?_take] at hz
    split at hz
    · rw [List.getElem?_drop] at hz
      have hlt : d + j < zs.length := (List.getElem?_eq_some_iff.1 hz).1
      have := h.row.cellAt (d + j) (by omega)
      rw [List.getElem?_map, hz] at this
      simpa using this
    · cases hz

theorem copy_len {CS : List Value} {n k d m : Nat} (h : CS.length = min n (k - d)) (hm : m = k - d) : CS.length = Nat.min m n := by
  rw [h, hm, Nat.min_comm]

theorem copy_way {CS : List Value} {n k d : Nat} {a sp dp : Option Addr} {g : Nat} {w : World} (h : CS.length = min n (k - d)) (hp : 0 < CS.length → ∃ ad, Option.map (fun x => x.add d) a = some ad ∧ ∀ (j : Nat) (u : Value), CS[j]? = some u → w.cell? (ad.add j) = some u)
    (hs : k ≤ d ∨ (dp = some ⟨g, 0, none⟩ ∧ sp = Option.map (fun x => x.add d) a)) : 0 < CS.length → dp = some ⟨g, 0, none⟩ ∧ ∃ ad, sp = some ad ∧ ∀ (j : Nat) (u : Value), CS[j]? = some u → w.cell? (ad.add j) = some u := by
  intro h0
  rcases hs with hs | ⟨rfl, rfl⟩
  · omega
  · exact ⟨rfl, hp h0⟩

theorem Tpe.below {w w' : World} {q d B : Nat} {v : Value} {zs : List Int} (h : Tpe w q v d zs) (b : Below B w w') (h1 : q < B) (h2 : ∀ k, v.ownBlock = some k → k < B) : Tpe w' q v d zs := by
  refine ⟨(b.block q h1).trans h.blk, ⟨h.row.1, ?_⟩, h.off, h.len⟩
  rcases h.row.2 with hh | ⟨g, cap, cur, rfl, hlo, hg, rest⟩
  · exact .inl hh
  · exact .inr ⟨g, cap, cur, rfl, hlo, (b.block g (h2 g rfl)).trans hg, rest⟩

/-- What Draw leaves. -/
def Drawn (w : World) (q : Nat) (v : Value) (d n : Nat) (zs : List Int) (e : Ending) (w' : World) : Prop :=
  e = .returned (.slice (some ⟨w.heap.size, 0, none⟩) n n) ∧ w'.heap[w.heap.size]? = some (.cells ((padsOf zs d n).map (Value.int .u8)).toArray 5 (0, 0)) ∧ Tpe w' q v (d + n) zs ∧ Chg (fun k => k = q) w w'

theorem pads_end {w w1 w3 : World} {q d n : Nat} {zs : List Int} {v : Value} {u : Value} {CS : List Value} (h : Tpe w q v d zs) (hg : w.grownBy w1 none) (H2 : Tpe ((w1.setCell ⟨q, 1, none⟩ u).drew) q v (d + n) zs)
    (hC : CS = ((zs.drop d).take n).map (Value.int .u8)) (G3 : w3.heap[w.heap.size]? = some (.cells (splice (madeCells #[Value.int .u8 0] n).toList 0 CS).toArray 5 (0, 0))) (B3 : Below w.heap.size ((w1.setCell ⟨q, 1, none⟩ u).drew) w3) :
    Drawn w q v d n zs (.returned (.slice (some ⟨w.heap.size, 0, none⟩) n n)) w3 := by
  subst hC
  rw [pads_splice] at G3
  exact ⟨rfl, G3, H2.below B3 (lt_of_block h.blk) (fun k hk => (h.row.lt k hk).2), (((((Chg.refl no w).grown hg (by simp)).of_no (fun k => k = q)).setCell _ _ (.inl rfl)).drew).blocked B3 (Nat.le_refl _)⟩

set_option maxRecDepth 100000 in
set_option maxHeartbeats 2000000 in
theorem pads_draw {w : World} {q d : Nat} {zs : List Int} {v : Value} (h : Tpe w q v d zs) (hd : d ≤ 100000000) (n : Nat) (h1 : 1 ≤ n) (h2 : n ≤ 1048576) :
    Calls Try.prog 37 #[.pointer (some ⟨q, 0, none⟩), .int .i64 n] w (Drawn w q v d n zs) := by
  obtain ⟨i0, hi0, hz0, hz1, hz2⟩ := info_parts info5
  have hn1 : (1 : Int) ≤ n := by omega
  have hn2 : (n : Int) ≤ 1048576 := by omega
  have hps : q < w.heap.size := lt_of_block h.blk
  have hcs : (Try.prog.info? 5).map (·.size) = some 1 := by kernel_rfl
  rcases Nat.lt_or_ge zs.length d with hlt | hge
  all_goals
    go_enter Try.func37, Try.ntmps37
    go_wp2_with (at_make; refine wpList_make_full _ rfl _ _ 22 rfl w.heap.size 5 i0 (.int .u8 0) 1 Try.underlying22 hi0 hz0 hz1 .i64 .i64 n n n rfl rfl rfl rfl ?c1 ?c2 ?c3 ?_)
    case c1 => rw [hz2]; omega
    case c2 => unfold maxLen; omega
    case c3 => omega
    intro w1 hown hg
    have HT := h
    have H := h.chg ((Chg.refl no w).grown hg (by simp)) id (fun _ _ h => h)
    obtain ⟨a, c, hv⟩ := owns_shape h.row
    obtain ⟨c0, c1, c2, f1⟩ := H.cells
    rw [hv] at c2
    have H2 : Tpe ((w1.setCell ⟨q, 1, none⟩ (.int .i64 ((d : Int) + n))).drew) q v (d + n) zs := by
      have := H.step (d' := d + n) ((d : Int) + n) (by simp)
      exact this.chg ((Chg.refl no _).drew) id (fun _ _ h => h)
    have hcap : zs.length ≤ c := cap_ge h.row hv
    have G := row_whole hown
    obtain ⟨CS, hCS⟩ : ∃ CS, CS = ((zs.drop d).take n).map (Value.int .u8) := ⟨_, rfl⟩
    have hCl : CS.length = min n (zs.length - d) := by rw [hCS]; simp
    have hone : ∀ u ∈ CS, u.oneCell' = true := by rw [hCS]; exact ints_oneCell _ _
    have hpos : 0 < CS.length → ∃ ad, Option.map (fun x => x.add d) a = some ad ∧ ∀ (j : Nat) (u : Value), CS[j]? = some u → ((w1.setCell ⟨q, 1, none⟩ (.int .i64 ((d : Int) + n))).drew).cell? (ad.add j) = some u := by
      rw [hv] at H2; rw [hCS]; exact copy_pos H2
    have HC : Hid (CS = ((zs.drop d).take n).map (Value.int .u8)) := hCS
    have G1 : ((w1.setCell ⟨q, 1, none⟩ (.int .i64 ((d : Int) + n))).drew).heap[w.heap.size]? = some (.cells ((madeCells #[Value.int .u8 0] n).toList).toArray 5 (0, 0)) :=
      (Below.heap_setCell _ _ _ _ (by simp; omega)).trans G.1
    have HP : Hid (0 < CS.length → ∃ ad, Option.map (fun x => x.add d) a = some ad ∧ ∀ (j : Nat) (u : Value), CS[j]? = some u → ((w1.setCell ⟨q, 1, none⟩ (.int .i64 ((d : Int) + n))).drew).cell? (ad.add j) = some u) := hpos
    have HG : Hid (((w1.setCell ⟨q, 1, none⟩ (.int .i64 ((d : Int) + n))).drew).heap[w.heap.size]? = some (.cells ((madeCells #[Value.int .u8 0] n).toList).toArray 5 (0, 0))) := G1
    have HL : Hid (CS.length = min n (zs.length - d)) := hCl
    have hlen := h.len
    clear hCS hpos G1 G hCl hv
    go_wp2_with fail
    go_region_with (go_at_call 49; refine (advance_any q d n w1.drew c1 f1 (by omega) (by omega) (by omega)).mono ?_; rintro e w2 ⟨rfl, rfl⟩)
    all_goals go_wp2_with (refine wpList_copy_splice rfl (.tmp 26) (.tmp 32) 22 22 rfl 5 Try.underlying22 hcs _ _ _ _ _ _ rfl rfl w.heap.size 0 (madeCells #[Value.int .u8 0] n).toList 5 HG.out CS (copy_len HL.out (by omega)) (copy_way HL.out HP.out (by simp; try omega)) (by have := HL.out; simp [toList_madeCells_one]; omega) hone w.heap.size _ (Below.refl _ _) (Nat.le_refl _) ?_; intro w3 G3 B3)
    all_goals go_ret
    all_goals exact pads_end HT hg H2 HC.out G3.out B3

end Go.Proofs.Ytmchjnmmeankgaa.st
