/- The program's map and the document's, side by side, and a box that stays. -/
import Derived.Test.YtocbmjkbbbmncaaBakS
import Derived.Test.YtocbmjkbbbmncaaFar
namespace Go.Proofs.Ytocbmjkbbbmncaa.st
open Go.ChangeShapes Go.WideShapes Go.ChangeAt Go.RowKit Go.Proofs.Ytocbmjkbbbmncaa.hp
set_option linter.unusedVariables false

/-- Both maps, and a block that stays. -/
structure DB (w : World) (p : Nat) (pv cv : Value) (ps : List (Int × Int)) (ch : List Bool) (p' : Nat) (pv' cv' : Value) (ps' : List (Int × Int)) (ch' : List Bool) (B : Nat) (o : Obj) (wr : World) : Prop where
  duo : Duo 63 33 49 39 w p pv cv ps ch p' pv' cv' ps' ch' wr
  off : ∀ k, Ft p pv cv k ∨ Ft p' pv' cv' k → k ≠ B
  new : w.heap.size ≤ B
  box : wr.heap[B]? = some o

section
variable {w wr w' : World} {p : Nat} {pv cv : Value} {ps qs : List (Int × Int)} {ch dh : List Bool} {p' : Nat} {pv' cv' : Value} {ps' : List (Int × Int)} {ch' : List Bool} {B : Nat} {o : Obj}

theorem DB.same (h : DB w p pv cv ps ch p' pv' cv' ps' ch' B o wr) (k : Chg no wr w') : DB w p pv cv ps ch p' pv' cv' ps' ch' B o w' := ⟨h.duo.same k, h.off, h.new, k.heap h.box id⟩

theorem DB.left (h : DB w p pv cv ps ch p' pv' cv' ps' ch' B o wr) (m : Mp 63 33 p pv cv qs dh w') (k : Chg (Ft p pv cv) wr w') : DB w p pv cv qs dh p' pv' cv' ps' ch' B o w' :=
  ⟨h.duo.left m k, h.off, h.new, k.heap h.box (fun e => h.off B (.inl e) rfl)⟩

theorem DB.right (h : DB w p pv cv ps ch p' pv' cv' ps' ch' B o wr) (m : Mp 49 39 p' pv' cv' qs dh w') (k : Chg (Ft p' pv' cv') wr w') : DB w p pv cv ps ch p' pv' cv' qs dh B o w' :=
  ⟨h.duo.right m k, h.off, h.new, k.heap h.box (fun e => h.off B (.inr e) rfl)⟩

theorem DB.anew (h : DB w p pv cv ps ch p' pv' cv' ps' ch' B o wr) {cz' : Value} (m : Mp 49 39 p' pv' cz' qs dh w') (k : Chg (Ft p' pv' cv') wr w') (hz : ∀ j, cz'.ownBlock = some j → wr.heap.size ≤ j) : DB w p pv cv ps ch p' pv' cz' qs dh B o w' := by
  refine ⟨h.duo.anew m k hz, ?_, h.new, k.heap h.box (fun e => h.off B (.inr e) rfl)⟩
  rintro j (e | e | e | e)
  · exact h.off j (.inl e)
  · exact h.off j (.inr (.inl e))
  · exact h.off j (.inr (.inr (.inl e)))
  · have := hz j e
    have := lt_of_block h.box
    omega
end

/-- Alike. -/
def Alk (w : World) (p : Nat) (pv cv : Value) (p' : Nat) (pv' : Value) (n : Nat) (wr : World) : Prop := ∃ ps ch cv', ps.length = n ∧ Duo 63 33 49 39 w p pv cv ps ch p' pv' cv' ps ch wr

/-- Alike, and a block that stays. -/
def AlkB (w : World) (p : Nat) (pv cv : Value) (p' : Nat) (pv' : Value) (n B : Nat) (o : Obj) (wr : World) : Prop := ∃ ps ch cv', ps.length = n ∧ DB w p pv cv ps ch p' pv' cv' ps ch B o wr

section
variable {w wr w' : World} {p : Nat} {pv cv : Value} {p' : Nat} {pv' : Value} {n B : Nat} {o : Obj}

theorem Alk.chg (h : Alk w p pv cv p' pv' n wr) : Chg no w wr := by
  obtain ⟨ps, ch, cv', _, D⟩ := h
  exact D.chg

theorem Alk.box (h : Alk w p pv cv p' pv' n wr) (xs : Array Value) (t : TypeId) : AlkB w p pv cv p' pv' n wr.heap.size (.cells xs t (0, 0)) (wr.alloc (.cells xs t)) := by
  obtain ⟨ps, ch, cv', hn, D⟩ := h
  refine ⟨ps, ch, cv', hn, D.same ((Chg.refl no wr).alloc _), ?_, D.chg.size, heap_alloc_new _ _⟩
  rintro k (e | e)
  · have := D.a.lt k e
    omega
  · have := D.b.lt k e
    omega

theorem AlkB.same (h : AlkB w p pv cv p' pv' n B o wr) (k : Chg no wr w') : AlkB w p pv cv p' pv' n B o w' := by
  obtain ⟨ps, ch, cv', hn, D⟩ := h
  exact ⟨ps, ch, cv', hn, D.same k⟩

theorem AlkB.drop (h : AlkB w p pv cv p' pv' n B o wr) : Alk w p pv cv p' pv' n wr := by
  obtain ⟨ps, ch, cv', hn, D⟩ := h
  exact ⟨ps, ch, cv', hn, D.duo⟩

theorem AlkB.blk (h : AlkB w p pv cv p' pv' n B o wr) : wr.heap[B]? = some o := by
  obtain ⟨ps, ch, cv', hn, D⟩ := h
  exact D.box
end

/-- The box within the law. -/
abbrev opBox (kind d l t : Int) (a : Option Addr) (m c : Nat) : Obj := .cells #[.int .i64 kind, .int .i64 d, .int .i64 l, .int .i64 t, .slice a m c] 36 (0, 0)

theorem opBox_cells {wr : World} {B : Nat} {kind d l t : Int} {a : Option Addr} {m c : Nat} (h : wr.heap[B]? = some (opBox kind d l t a m c)) : wr.cell? ⟨B, 0, none⟩ = some (.int .i64 kind) ∧ wr.cell? ⟨B, 1, none⟩ = some (.int .i64 d) ∧ wr.cell? ⟨B, 2, none⟩ = some (.int .i64 l) ∧ wr.cell? ⟨B, 3, none⟩ = some (.int .i64 t) ∧ wr.cell? ⟨B, 4, none⟩ = some (.slice a m c) ∧ B < wr.heap.size := by
  refine ⟨?_, ?_, ?_, ?_, ?_, lt_of_block h⟩ <;> simp [World.cell?, h]

theorem box_cells {wr : World} {B : Nat} {l t : Int} (h : wr.heap[B]? = some (.cells #[.int .i64 l, .int .i64 t] 33 (0, 0))) : wr.cell? ⟨B, 0, none⟩ = some (.int .i64 l) ∧ wr.cell? ⟨B, 1, none⟩ = some (.int .i64 t) ∧ B < wr.heap.size := by
  refine ⟨?_, ?_, lt_of_block h⟩ <;> simp [World.cell?, h]

section
variable {w wr : World} {p : Nat} {pv cv : Value} {p' : Nat} {pv' : Value} {n B : Nat} {o : Obj}

/-- Between the two calls of an operation. -/
def Mid (w : World) (p : Nat) (pv cv : Value) (qs : List (Int × Int)) (dh : List Bool) (p' : Nat) (pv' cv' : Value) (ps : List (Int × Int)) (ch : List Bool) (B : Nat) (o : Obj) (wr : World) : Prop := DB w p pv cv qs dh p' pv' cv' ps ch B o wr

/-- Set on both: the same answer. -/
theorem play_set (h : AlkB w p pv cv p' pv' n B o wr) (d l t : Int) : ∃ (W : Bool) (R : World → Prop), (Calls Try.prog 12 #[pt p, .int .i64 d, nv l t] wr fun e w1 => e = .returned (.bool W) ∧ R w1) ∧ (∀ w1 w2, R w1 → Chg no w1 w2 → R w2) ∧ (∀ w1, R w1 → w1.heap[B]? = some o) ∧
    ∀ w1, R w1 → Calls Try.prog 13 #[pt p', .int .i64 d, nv l t] w1 fun e w2 => e = .returned (.bool W) ∧ AlkB w p pv cv p' pv' n B o w2 := by
  obtain ⟨ps, ch, cv', hn, D⟩ := h
  refine ⟨may ps.length d l t, fun w1 => DB w p pv cv (setP ps d l t) (setC ps.length ch d l t) p' pv' cv' ps ch B o w1, ?_, fun w1 w2 h k => h.same k, fun w1 h => h.box, ?_⟩
  · refine (set_any D.duo.a d l t).mono ?_
    rintro e w1 ⟨rfl, M, k⟩
    exact ⟨rfl, D.left M k⟩
  · intro w1 D1
    refine (rset_any D1.duo.b d l t).mono ?_
    rintro e w2 ⟨rfl, M, k⟩
    exact ⟨rfl, _, _, _, by rw [setP_length]; exact hn, D1.right M k⟩

/-- Settle on both. -/
theorem play_settle (h : AlkB w p pv cv p' pv' n B o wr) (hn1 : n ≤ 100) : ∃ R : World → Prop, (Calls Try.prog 15 #[pt p] wr fun e w1 => e = .returned (.tuple #[]) ∧ R w1) ∧
    ∀ w1, R w1 → Calls Try.prog 16 #[pt p'] w1 fun e w2 => e = .returned (.tuple #[]) ∧ AlkB w p pv cv p' pv' n B o w2 := by
  obtain ⟨ps, ch, cv', hn, D⟩ := h
  refine ⟨fun w1 => DB w p pv cv ps (List.replicate ps.length false) p' pv' cv' ps ch B o w1, ?_, ?_⟩
  · refine (settle_any D.duo.a).mono ?_
    rintro e w1 ⟨rfl, M, k⟩
    exact ⟨rfl, D.left M k⟩
  · intro w1 D1
    refine (rsettle_any D1.duo.b (by omega)).mono ?_
    rintro e w2 ⟨cz, rfl, M, k, hz⟩
    exact ⟨rfl, _, _, _, hn, D1.anew M k hz⟩

/-- Apply on both: the same answer; between them the changes are copied. -/
theorem play_apply (h : AlkB w p pv cv p' pv' n B o wr) (v : Value) (cs : List (Int × Int × Int)) (hv : Lie (Old w) w v cs.length (cs.flatMap f3)) (hc : cs.length ≤ 2000) : ∃ (W : Bool) (R : World → Prop), (Calls Try.prog 17 #[pt p, v] wr fun e w1 => e = .returned (.bool W) ∧ R w1) ∧ (∀ w1, R w1 → w1.heap[B]? = some o) ∧
    ∀ w1, R w1 → Calls Try.prog 19 #[v] w1 fun e w2 => ∃ a2 c2, e = .returned (.slice a2 cs.length c2) ∧ w2.heap[B]? = some o ∧ Calls Try.prog 18 #[pt p', .slice a2 cs.length c2] w2 fun e w3 => e = .returned (.bool W) ∧ AlkB w p pv cv p' pv' n B o w3 := by
  obtain ⟨ps, ch, cv', hn, D⟩ := h
  refine ⟨mayAll ps.length cs, fun w1 => DB w p pv cv (applyP ps cs) ch p' pv' cv' ps ch B o w1, ?_, fun w1 h => h.box, ?_⟩
  · refine (apply_any D.duo.a v cs (hv.same D.duo.chg) (fun k hk e => by have := D.duo.na k e; unfold Old at hk; omega) (by omega)).mono ?_
    rintro e w1 ⟨rfl, M, k⟩
    exact ⟨rfl, D.left M k⟩
  · intro w1 D1
    refine (lchanges_any w1 v cs (hv.same D1.duo.chg) (by omega)).mono ?_
    rintro e w2 ⟨v2, rfl, N2⟩
    obtain ⟨a2, c2, rfl⟩ := N2.shape
    have D2 := D1.same N2.2
    refine ⟨a2, c2, rfl, D2.box, ?_⟩
    refine (rapply_any D2.duo.b (.slice a2 cs.length c2) cs N2.lie (fun k hk e => by have := D1.duo.b.lt k e; omega) (by omega)).mono ?_
    rintro e w3 ⟨rfl, M, k⟩
    exact ⟨rfl, _, _, _, by rw [applyP_length]; exact hn, D2.right M k⟩

/-- What is asked behind each operation: the same of both. -/
theorem AlkB.tells (h : AlkB w p pv cv p' pv' n B o wr) (hn1 : n ≤ 100) (d : Int) :
    ∃ (ap : Option Addr) (cp : Nat) (gl gt : Int), wr.cell? ⟨p', 0, none⟩ = some (.slice ap n cp) ∧ p' < wr.heap.size ∧ (isId n d = false → gl = 0 ∧ gt = 0) ∧
      (∀ k : Nat, d = k → k < n → ∃ g, ap = some ⟨g, 0, none⟩ ∧ wr.cell? ⟨g, k * 2, none⟩ = some (.int .i64 gl) ∧ wr.cell? ⟨g, k * 2 + 1, none⟩ = some (.int .i64 gt)) ∧
      ∀ W, Chg no wr W → (Calls Try.prog 20 #[pt p, .int .i64 d] W fun e w1 => e = .returned (.tuple #[nv gl gt, .bool (isId n d)]) ∧ Chg no W w1) ∧ (Calls Try.prog 21 #[pt p] W fun e w1 => e = .returned (.int .i64 n) ∧ w1 = W) ∧
        (Calls Try.prog 23 #[pt p] W fun e w1 => ∃ a1 c1, e = .returned (.slice a1 n c1) ∧ Chg no W w1 ∧ Calls Try.prog 11 #[.slice a1 n c1] w1 fun e w2 => ∃ a2 c2, e = .returned (.slice a2 n c2) ∧ Chg no w1 w2 ∧ Calls Try.prog 22 #[.slice a2 n c2, .slice ap n cp] w2 fun e w3 => e = .returned (.bool true) ∧ Chg no w2 w3) ∧
        (Calls Try.prog 25 #[pt p] W fun e w1 => ∃ a1 m c1, e = .returned (.slice a1 m c1) ∧ Chg no W w1 ∧ Calls Try.prog 19 #[.slice a1 m c1] w1 fun e w2 => ∃ a2 c2, e = .returned (.slice a2 m c2) ∧ Chg no w1 w2 ∧
          Calls Try.prog 26 #[pt p'] w2 fun e w3 => ∃ a3 c3, e = .returned (.slice a3 m c3) ∧ Chg no w2 w3 ∧ Calls Try.prog 24 #[.slice a2 m c2, .slice a3 m c3] w3 fun e w4 => e = .returned (.bool true) ∧ Chg no w3 w4) := by
  obtain ⟨ps, ch, cv', hn, D⟩ := h
  subst hn
  obtain ⟨c0, _, _, hp⟩ := D.duo.b.cells
  obtain ⟨ap, cp, hpv, hP⟩ := mp_places D.duo.b
  rw [hpv] at c0
  refine ⟨ap, cp, (getP ps d).1, (getP ps d).2, c0, hp, ?_, ?_, ?_⟩
  · intro hi
    unfold getP
    rw [hi]
    exact ⟨rfl, rfl⟩
  · rintro k rfl hk
    obtain ⟨g, e, q0, q1⟩ := hP k hk
    have hi : isId ps.length (k : Int) = true := by unfold isId; simp; omega
    have hg : getP ps (k : Int) = ps.getD k (0, 0) := by unfold getP; rw [hi, if_pos rfl, Int.toNat_natCast]
    rw [hg]
    exact ⟨g, e, q0, q1⟩
  · intro W K
    have DW := D.same K
    refine ⟨get_any DW.duo.a d, len_any DW.duo.a, ?_, ?_⟩
    · refine (all_any DW.duo.a (by omega)).mono ?_
      rintro e w1 ⟨v1, rfl, N1⟩
      obtain ⟨a1, c1, rfl⟩ := N1.shape
      refine ⟨a1, c1, rfl, N1.2, ?_⟩
      refine (lplaces_any w1 _ ps N1.lie (by omega)).mono ?_
      rintro e w2 ⟨v2, rfl, N2⟩
      obtain ⟨a2, c2, rfl⟩ := N2.shape
      refine ⟨a2, c2, rfl, N2.2, ?_⟩
      have D2 := (DW.same N1.2).same N2.2
      have hl : Lie (fun _ => True) w2 pv' ps.length (ps.flatMap f2) := Lie.of_owns D2.duo.b.row (fun _ _ => trivial)
      rw [hpv] at hl
      exact places_same w2 _ _ ps N2.lie hl (by omega)
    · refine (changes_any DW.duo.a (by omega)).mono ?_
      rintro e w1 ⟨v1, rfl, N1⟩
      have htl := told_len ps ch ps.length
      obtain ⟨a1, c1, rfl⟩ := N1.shape
      refine ⟨a1, _, c1, rfl, N1.2, ?_⟩
      refine (lchanges_any w1 _ _ N1.lie (by omega)).mono ?_
      rintro e w2 ⟨v2, rfl, N2⟩
      obtain ⟨a2, c2, rfl⟩ := N2.shape
      refine ⟨a2, c2, rfl, N2.2, ?_⟩
      have D2 := (DW.same N1.2).same N2.2
      refine (rchanges_any D2.duo.b (by omega)).mono ?_
      rintro e w3 ⟨v3, rfl, N3⟩
      obtain ⟨a3, c3, rfl⟩ := N3.shape
      exact ⟨a3, c3, rfl, N3.2, changes_same w3 _ _ _ (N2.lie.same N3.2) N3.lie (by omega)⟩
end

end Go.Proofs.Ytocbmjkbbbmncaa.st
