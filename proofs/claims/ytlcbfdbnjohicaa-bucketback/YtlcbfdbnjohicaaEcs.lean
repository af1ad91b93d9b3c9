/- A writer of a call's own, Num and Raw of one block in whatever order its parts are made. -/
import Derived.Test.YtlcbfdbnjohicaaRma
namespace Go.Proofs.Ytlcbfdbnjohicaa.st
open Go.ChangeShapes Go.WideShapes Go.ChangeAt Go.RowKit Go.Proofs.Ytlcbfdbnjohicaa.hp Go.Proofs.Ytlcbfdbnjohicaa.dg
set_option linter.unusedVariables false

/-- A writer that was made in w4, at p. -/
abbrev LW (w4 : World) (p : Nat) (s : WS) (wr : World) : Prop := WAt w4 p (fun k => k = p) s wr

theorem LW.new (w : World) : LW (w.alloc (.cells #[.slice none 0 0, .bool false] 50)) w.heap.size ([], false) (w.alloc (.cells #[.slice none 0 0, .bool false] 50)) := WAt.start (s := ([], false)) (wri_new w)

theorem LW.chg {w w4 wr : World} {p : Nat} {s : WS} (h : LW w4 p s wr) (k : Chg no w w4) (hp : w.heap.size ≤ p) : Chg no w wr := k.trans h.2 (fun b hb => .inr (by omega))

theorem heap2 (w : World) (a b : Obj) : ((w.alloc a).alloc b).heap[w.heap.size + 1]? = some b := by
  have := heap_alloc_new (w.alloc a) b
  rwa [show (w.alloc a).heap.size = w.heap.size + 1 by simp] at this

theorem heap1 (w : World) (a b : Obj) : ((w.alloc a).alloc b).heap[w.heap.size]? = some a := ((Chg.refl no (w.alloc a)).alloc b).heap (heap_alloc_new w a) id

theorem heap3 (w : World) (a b c : Obj) : (((w.alloc a).alloc b).alloc c).heap[w.heap.size + 2]? = some c := by
  have := heap2 (w.alloc a) b c
  rwa [show (w.alloc a).heap.size = w.heap.size + 1 by simp] at this

theorem heap3b (w : World) (a b c : Obj) : (((w.alloc a).alloc b).alloc c).heap[w.heap.size + 1]? = some b := ((Chg.refl no ((w.alloc a).alloc b)).alloc c).heap (heap2 w a b) id

theorem heap3a (w : World) (a b c : Obj) : (((w.alloc a).alloc b).alloc c).heap[w.heap.size]? = some a := ((Chg.refl no ((w.alloc a).alloc b)).alloc c).heap (heap1 w a b) id

/-- Behind Num, which was called in W1. -/
structure Mid (w4 : World) (p : Nat) (s : WS) (wr W1 w5 : World) : Prop where
  k1 : Chg no wr W1
  at_ : WAt W1 p (Wid (fun k => k = p) w4 wr) s w5

theorem wid_p {w4 wr : World} {p : Nat} : ∀ j, Wid (fun k => k = p) w4 wr j → j = p ∨ w4.heap.size ≤ j := fun j hj => by rcases hj with h | h; exact .inl h; exact .inr h.1

theorem nums_id (i : Int) (h0 : 0 ≤ i) (h1 : i < 64) (bs : List Int) : nums 1 (bs, false) [i + 1] = (bs ++ [i + 1], false) := by
  have e1 : brk 1 (bs, false) = (bs, false) := by simp [brk]
  have e2 : okN 1 (i + 1) = true := by
    unfold okN
    apply decide_eq_true
    have : (2 : Int) ^ (8 * (1 : Int).toNat) = 256 := by decide
    omega
  have e3 : enc (i + 1) 1 = [i + 1] := by
    simp [enc, digit]
    omega
  unfold nums
  rw [e1]
  simp [stp, e2, e3]

theorem LW.num {w4 wr W1 : World} {p g : Nat} {bs : List Int} (h : LW w4 p (bs, false) wr) (hl : bs.length ≤ 90000000) (k1 : Chg no wr W1) (i : Int) (h0 : 0 ≤ i) (h1 : i < 64) (hg : W1.heap[g]? = some (.cells #[.int .i64 (i + 1)] 3 (0, 0))) (hgn : wr.heap.size ≤ g) :
    Calls Try.prog 23 #[.pointer (some ⟨p, 0, none⟩), .int .i64 1, .slice (some ⟨g, 0, none⟩) 1 1] W1 fun e w5 => e = .returned (.pointer (some ⟨p, 0, none⟩)) ∧ Mid w4 p (bs ++ [i + 1], false) wr W1 w5 := by
  have hL := lies_block (zs := [i + 1].map (Value.int .i64)) (by simpa using hg) 1
  refine (num_any (s := (bs, false)) (h.1.same k1) hl 1 _ [i + 1] hL (fun b hb => ⟨fun e => by have := h.1.lt b e; omega, by subst hb; exact lt_of_block hg⟩) (by simp)).mono ?_
  rintro e w' ⟨rfl, hW⟩
  rw [nums_id i h0 h1] at hW
  exact ⟨rfl, k1, hW⟩

theorem raws_one (bs zs : List Int) : raws (bs, false) [zs] = (bs ++ zs, false) := by simp [raws]

/-- Raw of bytes that lay there ahead of the writer. -/
theorem LW.raws {w w4 wr W1 w5 W2 : World} {p g : Nat} {s : WS} {bs zs : List Int} {a : Option Addr} {c : Nat} (h : LW w4 p s wr) (k4 : Chg no w w4) (hp : w.heap.size ≤ p) (hM : Mid w4 p (bs, false) wr W1 w5) (k2 : Chg no w5 W2) (hz : Lies (Old w) w (.slice a zs.length c) (zs.map (Value.int .u8))) (hl : bs.length + zs.length ≤ 90000000)
    (hg : W2.heap[g]? = some (.cells #[.slice a zs.length c] 25 (0, 0))) (hgn : wr.heap.size ≤ g) (hg2 : g < W1.heap.size ∨ w5.heap.size ≤ g) :
    Calls Try.prog 24 #[.pointer (some ⟨p, 0, none⟩), .slice (some ⟨g, 0, none⟩) 1 1] W2 fun e w' => e = .returned (.pointer (some ⟨p, 0, none⟩)) ∧ LW w4 p (bs ++ zs, false) w' := by
  have z4 := k4.size
  have zr := h.2.size
  have z1 := hM.k1.size
  have z5 := hM.at_.2.size
  have z2 := k2.size
  have hL := (lies_block (zs := [Value.slice a zs.length c]) hg 1).mono (K := fun b => Old w b ∨ b = g) (fun b hb => .inr hb)
  have K5 : Chg no w w5 := ((h.chg k4 hp).then hM.k1).trans hM.at_.2 (fun b hb => by rcases wid_p b hb with e | e <;> exact .inr (by omega))
  have hz2 : Lies (fun b => Old w b ∨ b = g) W2 (.slice a zs.length c) (zs.map (Value.int .u8)) := (hz.chg (K5.then k2) (fun _ _ h => h)).mono (fun b hb => .inl hb)
  have hpl := h.1.lt p h.1.fp
  have hnF : ∀ b, (Old w b ∨ b = g) → ¬ Wid (Wid (fun k => k = p) w4 wr) W1 w5 b := by
    rintro b (hb | rfl) e
    · unfold Old at hb
      rcases e with (e | e) | e <;> omega
    · rcases e with (e | e) | e
      · omega
      · omega
      · omega
  have hgl := lt_of_block hg
  refine (raw_any (s := (bs, false)) (hM.at_.1.same k2) _ [(.slice a zs.length c, zs)] hL (fun x hx => by simp at hx; subst hx; exact hz2) (fun b hb => ⟨hnF b hb, ?_⟩) (by simp) (by simpa using hl)).mono ?_
  · rcases hb with hb | rfl
    · unfold Old at hb
      omega
    · exact hgl
  · rintro e w' ⟨rfl, hW⟩
    have zw := hW.2.size
    have er : Go.Proofs.Ytlcbfdbnjohicaa.st.raws (bs, false) [zs] = (bs ++ zs, false) := raws_one bs zs
    simp only [List.map_cons, List.map_nil] at hW
    rw [er] at hW
    have C1 : Chg (fun k => k = p) w4 w5 := (h.2.then (hM.k1.of_no _)).trans hM.at_.2 wid_p
    have C2 : Chg (fun k => k = p) w4 w' := (C1.then (k2.of_no _)).trans hW.2 (fun b hb => by
      rcases hb with hb | hb
      · exact wid_p b hb
      · exact .inr (by omega))
    refine ⟨rfl, hW.1.wide ?_ ?_, C2⟩
    · intro b hb
      rcases hb with ((hb | hb) | hb) | hb
      · exact .inl hb
      · exact .inr ⟨by omega, by omega⟩
      · exact .inr ⟨by omega, by omega⟩
      · exact .inr ⟨by omega, by omega⟩
    · intro b hb
      rcases hb with rfl | hb
      · omega
      · exact hb.2

theorem Mid.keep {w4 : World} {p : Nat} {s : WS} {wr W1 w5 : World} (h : Mid w4 p s wr W1 w5) {g : Nat} {o : Obj} (hp : p < wr.heap.size) (hg : W1.heap[g]? = some o) (hgn : wr.heap.size ≤ g) : w5.heap[g]? = some o :=
  h.at_.2.heap hg (fun e => by rcases e with e | e <;> omega)

end Go.Proofs.Ytlcbfdbnjohicaa.st
