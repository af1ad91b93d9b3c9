/- The program's stash and the document's, side by side. -/
import Derived.Test.YtedhlidmmmlemaaLoc
import Derived.Test.YtedhlidmmmlemaaRfi
import Derived.Test.YtedhlidmmmlemaaRtk
import Derived.Test.YtedhlidmmmlemaaRpz
namespace Go.Proofs.Ytedhlidmmmlemaa.st
open Go.ChangeShapes Go.WideShapes Go.ChangeAt Go.RowKit Go.Proofs.Ytedhlidmmmlemaa.hp
set_option linter.unusedVariables false
set_option linter.unusedSimpArgs false

/-- Two stashes and a box that stays, all made behind w. -/
def Alb (w : World) (p q : Nat) (L M : List Bk) (m m' : Nat) (Q : Nat) (o : Obj) (wr : World) : Prop := ∃ F G, St 64 36 F p L m wr ∧ St 32 37 G q M m' wr ∧ (∀ b, F b → ¬ G b) ∧ (∀ b, F b → w.heap.size ≤ b) ∧ (∀ b, G b → w.heap.size ≤ b) ∧ Chg no w wr ∧ ¬ F Q ∧ ¬ G Q ∧ wr.heap[Q]? = some o

/-- .. no box. -/
def Alk (w : World) (p q : Nat) (L M : List Bk) (m m' : Nat) (wr : World) : Prop := ∃ F G, St 64 36 F p L m wr ∧ St 32 37 G q M m' wr ∧ (∀ b, F b → ¬ G b) ∧ (∀ b, F b → w.heap.size ≤ b) ∧ (∀ b, G b → w.heap.size ≤ b) ∧ Chg no w wr

section
variable {w wr w' : World} {p q m m' Q : Nat} {L M : List Bk} {o : Obj}

theorem Alb.drop (h : Alb w p q L M m m' Q o wr) : Alk w p q L M m m' wr := by
  obtain ⟨F, G, h1, h2, h3, h4, h5, h6, _⟩ := h
  exact ⟨F, G, h1, h2, h3, h4, h5, h6⟩

theorem Alb.same (h : Alb w p q L M m m' Q o wr) (k : Chg no wr w') : Alb w p q L M m m' Q o w' := by
  obtain ⟨F, G, h1, h2, h3, h4, h5, h6, h7, h8, h9⟩ := h
  exact ⟨F, G, h1.same k, h2.same k, h3, h4, h5, h6.then k, h7, h8, k.heap h9 (fun h => h)⟩

theorem Alk.same (h : Alk w p q L M m m' wr) (k : Chg no wr w') : Alk w p q L M m m' w' := by
  obtain ⟨F, G, h1, h2, h3, h4, h5, h6⟩ := h
  exact ⟨F, G, h1.same k, h2.same k, h3, h4, h5, h6.then k⟩

theorem Alk.box (h : Alk w p q L M m m' wr) (xs : Array Value) (t : TypeId) : Alb w p q L M m m' wr.heap.size (.cells xs t (0, 0)) (wr.alloc (.cells xs t)) := by
  obtain ⟨F, G, h1, h2, h3, h4, h5, h6⟩ := h
  have k := (Chg.refl no wr).alloc (.cells xs t)
  exact ⟨F, G, h1.same k, h2.same k, h3, h4, h5, h6.then k, fun e => by have := h1.lt _ e; omega, fun e => by have := h2.lt _ e; omega, heap_alloc_new _ _⟩

theorem Alb.chg (h : Alb w p q L M m m' Q o wr) : Chg no w wr := by
  obtain ⟨F, G, h1, h2, h3, h4, h5, h6, _⟩ := h
  exact h6

theorem Alk.chg (h : Alk w p q L M m m' wr) : Chg no w wr := by
  obtain ⟨F, G, h1, h2, h3, h4, h5, h6⟩ := h
  exact h6

theorem Alb.cells {i : Int} {v : Value} {t : TypeId} (h : Alb w p q L M m m' Q (.cells #[.int .i64 i, v] t (0, 0)) wr) : wr.cell? ⟨Q, 0, none⟩ = some (.int .i64 i) ∧ wr.cell? ⟨Q, 1, none⟩ = some v ∧ Q < wr.heap.size := by
  obtain ⟨F, G, _, _, _, _, _, _, _, _, h6⟩ := h
  exact ⟨(row_cell (xs := [_, _]) h6 0 _ rfl).1, (row_cell (xs := [_, _]) h6 1 _ rfl).1, lt_of_block h6⟩

theorem Alb.put (h : Alb w p q L M m m' Q o wr) (id : Int) (a : Option Addr) (l c : Nat) (zs : List Int) (hv : Lies (Old w) w (.slice a l c) (zs.map (Value.int .u8))) (hb : Bytes zs) (hl : zs.length = l) :
    Calls Try.prog 12 #[pt p, bv id a l c] wr fun e w' => e = .returned (.bool (decide (okB (id, zs)))) ∧ Alb w p q (putA L (id, zs)) M (mostA L m (id, zs)) m' Q o w' := by
  obtain ⟨F, G, h1, h2, h3, h4, h5, h6, h7, h8, h9⟩ := h
  refine (put_any h1 id a l c zs (Lies.later hv h6) hb hl).mono ?_
  rintro e w' ⟨rfl, S, k⟩
  have s1 := h6.size
  have hlt := h2.lt
  have hQ := lt_of_block h9
  refine ⟨rfl, _, G, S, h2.chg k (fun b hb hf => h3 b hf hb), ?_, ?_, h5, h6.trans k (fun b hb => .inr (h4 b hb)), ?_, h8, k.heap h9 h7⟩
  · rintro b (hb | hb) hg
    · exact h3 b hb hg
    · have := hlt b hg
      have := hb.1
      omega
  · rintro b (hb | hb)
    · exact h4 b hb
    · have := hb.1
      omega
  · rintro (e | e)
    · exact h7 e
    · omega

theorem Alb.rput (h : Alb w p q L M m m' Q o wr) (id : Int) (a : Option Addr) (l c : Nat) (zs : List Int) (hv : Lies (Old w) w (.slice a l c) (zs.map (Value.int .u8))) (hb : Bytes zs) (hl : zs.length = l) :
    Calls Try.prog 11 #[pt q, bv id a l c] wr fun e w' => e = .returned (.bool (decide (okB (id, zs)))) ∧ Alb w p q L (putA M (id, zs)) m (mostA M m' (id, zs)) Q o w' := by
  obtain ⟨F, G, h1, h2, h3, h4, h5, h6, h7, h8, h9⟩ := h
  refine (rput_any h2 id a l c zs (Lies.later hv h6) hb hl).mono ?_
  rintro e w' ⟨rfl, S, k⟩
  have s1 := h6.size
  have hlt := h1.lt
  have hQ := lt_of_block h9
  refine ⟨rfl, F, _, h1.chg k h3, S, ?_, h4, ?_, h6.trans k (fun b hb => .inr (h5 b hb)), h7, ?_, k.heap h9 h8⟩
  · rintro b hf (hb | hb)
    · exact h3 b hf hb
    · have := hlt b hf
      have := hb.1
      omega
  · rintro b (hb | hb)
    · exact h5 b hb
    · have := hb.1
      omega
  · rintro (e | e)
    · exact h8 e
    · omega

/-- Take of both: what the first answered lies still behind the second. -/
theorem Alb.takes (h : Alb w p q L M m m' Q o wr) (id : Int) :
    Calls Try.prog 13 #[pt p, .int .i64 id] wr fun e w1 => ∃ a c, e = .returned (.tuple #[bv (getL L id).1 a (getL L id).2.length c, .bool (hasL L id)]) ∧ w1.heap[Q]? = some o ∧
      ∀ W, Chg no w1 W → Calls Try.prog 14 #[pt q, .int .i64 id] W fun e w2 => ∃ b d, e = .returned (.tuple #[bv (getL M id).1 b (getL M id).2.length d, .bool (hasL M id)]) ∧
        Lies (Old w2) w2 (.slice a (getL L id).2.length c) ((getL L id).2.map (Value.int .u8)) ∧ Lies (Old w2) w2 (.slice b (getL M id).2.length d) ((getL M id).2.map (Value.int .u8)) ∧
        Alb w p q (delL L id) (delL M id) m m' Q o w2 ∧ ∀ g o', w1.heap.size ≤ g → W.heap[g]? = some o' → w2.heap[g]? = some o' := by
  obtain ⟨F, G, h1, h2, h3, h4, h5, h6, h7, h8, h9⟩ := h
  refine (take_any h1 id).mono ?_
  rintro e w1 ⟨a, c, rfl, l1, S1, k1⟩
  have g1 := h2.chg k1 (fun b hb hf => h3 b hf hb)
  have q1 := k1.heap h9 h7
  refine ⟨a, c, rfl, q1, fun W kW => ?_⟩
  have glt := g1.lt
  refine (rtake_any (g1.same kW) id).mono ?_
  rintro e w2 ⟨b, d, rfl, l2, S2, k2⟩
  have s1 := h6.size
  have s2 := k1.size
  have s3 := kW.size
  have hlt := S1.lt
  have hQ := lt_of_block q1
  refine ⟨b, d, rfl, Lies.old ((l1.chg kW (fun _ _ h => h)).chg k2 h3), Lies.old l2, ⟨F, _, (S1.same kW).chg k2 h3, S2, ?_, h4, ?_, ((h6.trans k1 (fun b hb => .inr (h4 b hb))).then kW).trans k2 (fun b hb => .inr (h5 b hb)), h7, ?_, k2.heap (kW.heap q1 (fun h => h)) h8⟩, fun g o' hg hgo => k2.heap hgo (fun e => by have := glt g e; omega)⟩
  · rintro b hf (hb | hb)
    · exact h3 b hf hb
    · have := hlt b hf
      have := hb.1
      omega
  · rintro b (hb | hb)
    · exact h5 b hb
    · have := hb.1
      omega
  · rintro (e | e)
    · exact h8 e
    · omega

theorem Alk.rput (h : Alk w p q L M m m' wr) (id : Int) (a : Option Addr) (l c : Nat) (zs : List Int) (hv : Lies (Old w) w (.slice a l c) (zs.map (Value.int .u8))) (hb : Bytes zs) (hl : zs.length = l) :
    Calls Try.prog 11 #[pt q, bv id a l c] wr fun e w' => e = .returned (.bool (decide (okB (id, zs)))) ∧ Alk w p q L (putA M (id, zs)) m (mostA M m' (id, zs)) w' := by
  obtain ⟨F, G, h1, h2, h3, h4, h5, h6⟩ := h
  refine (rput_any h2 id a l c zs (Lies.later hv h6) hb hl).mono ?_
  rintro e w' ⟨rfl, S, k⟩
  have s1 := h6.size
  have hlt := h1.lt
  refine ⟨rfl, F, _, h1.chg k h3, S, ?_, h4, ?_, h6.trans k (fun b hb => .inr (h5 b hb))⟩
  · rintro b hf (hb | hb)
    · exact h3 b hf hb
    · have := hlt b hf
      have := hb.1
      omega
  · rintro b (hb | hb)
    · exact h5 b hb
    · have := hb.1
      omega

theorem alk_new {w1 : World} {F : Nat → Prop} (h : St 64 36 F p L m w1) (hF : ∀ k, F k → w.heap.size ≤ k) (k : Chg no w w1) : Alk w p w1.heap.size L [] m 0 (w1.alloc (.cells #[.slice none 0 0, .int .i64 0] 32)) := by
  have kk := (Chg.refl no w1).alloc (.cells #[.slice none 0 0, .int .i64 0] 32)
  have hlt := h.lt
  have s1 := k.size
  exact ⟨F, _, h.same kk, st_new 32 37 w1, fun b hb e => by have := hlt b hb; omega, hF, fun b hb => by omega, k.then kk⟩

/-- The reads. -/
theorem Alb.find (h : Alb w p q L M m m' Q o wr) (id : Int) : Calls Try.prog 16 #[pt q, .int .i64 id] wr fun e w' => e = .returned (.int .i64 (findL M id)) ∧ w' = wr := by
  obtain ⟨F, G, h1, h2, _⟩ := h
  exact rfind_any h2 id

theorem Alb.get (h : Alb w p q L M m m' Q o wr) (id : Int) : Calls Try.prog 17 #[pt p, .int .i64 id] wr fun e w' => ∃ a c, e = .returned (.tuple #[.slice a (getL L id).2.length c, .bool (hasL L id)]) ∧ Lies (Old w') w' (.slice a (getL L id).2.length c) ((getL L id).2.map (Value.int .u8)) ∧ Alb w p q L M m m' Q o w' ∧ Chg no wr w' := by
  have h0 := h
  obtain ⟨F, G, h1, h2, _⟩ := h
  refine (get_any h1 id).mono ?_
  rintro e w' ⟨a, c, rfl, l, k⟩
  exact ⟨a, c, rfl, Lies.old l, h0.same k, k⟩

theorem Alb.has (h : Alb w p q L M m m' Q o wr) (id : Int) : Calls Try.prog 18 #[pt p, .int .i64 id] wr fun e w' => e = .returned (.bool (hasL L id)) ∧ Alb w p q L M m m' Q o w' ∧ Chg no wr w' := by
  have h0 := h
  obtain ⟨F, G, h1, h2, _⟩ := h
  refine (has_any h1 id).mono ?_
  rintro e w' ⟨rfl, k⟩
  exact ⟨rfl, h0.same k, k⟩

theorem Alb.len (h : Alb w p q L M m m' Q o wr) : Calls Try.prog 19 #[pt p] wr fun e w' => e = .returned (.int .i64 (L.length : Nat)) ∧ w' = wr := by
  obtain ⟨F, G, h1, h2, _⟩ := h
  exact len_any h1

theorem Alb.most (h : Alb w p q L M m m' Q o wr) : Calls Try.prog 20 #[pt p] wr fun e w' => e = .returned (.int .i64 (m : Nat)) ∧ w' = wr := by
  obtain ⟨F, G, h1, h2, _⟩ := h
  exact most_any h1

theorem Alb.ids (h : Alb w p q L M m m' Q o wr) : Calls Try.prog 22 #[pt p] wr fun e w' => ∃ a c, e = .returned (.slice a L.length c) ∧ Lies (Old w') w' (.slice a L.length c) ((L.map (·.1)).map (Value.int .i64)) ∧ Alb w p q L M m m' Q o w' ∧ Chg no wr w' := by
  have h0 := h
  obtain ⟨F, G, h1, h2, _⟩ := h
  refine (ids_any h1).mono ?_
  rintro e w' ⟨a, c, rfl, l, k⟩
  exact ⟨a, c, rfl, Lies.old l, h0.same k, k⟩

theorem Alb.rids (h : Alb w p q L M m m' Q o wr) : Calls Try.prog 23 #[pt q] wr fun e w' => ∃ a c, e = .returned (.slice a M.length c) ∧ Lies (Old w') w' (.slice a M.length c) ((M.map (·.1)).map (Value.int .i64)) ∧ Alb w p q L M m m' Q o w' ∧ Chg no wr w' := by
  have h0 := h
  obtain ⟨F, G, h1, h2, _⟩ := h
  refine (rids_any h2).mono ?_
  rintro e w' ⟨a, c, rfl, l, k⟩
  exact ⟨a, c, rfl, l, h0.same k, k⟩

theorem Alb.all (h : Alb w p q L M m m' Q o wr) : Calls Try.prog 26 #[pt p] wr fun e w' => ∃ a c ys, e = .returned (.slice a ys.length c) ∧ abs ys = L ∧ Bks w' (.slice a ys.length c) ys ∧ Alb w p q L M m m' Q o w' ∧ Chg no wr w' := by
  have h0 := h
  obtain ⟨F, G, h1, h2, _⟩ := h
  refine (all_any h1).mono ?_
  rintro e w' ⟨a, c, ys, rfl, h2, h3⟩
  exact ⟨a, c, ys, rfl, h2, h3.bks, h0.same h3.chg, h3.chg⟩

/-- What the document's stash shows. -/
theorem Alb.shows (h : Alb w p q L M m m' Q o wr) : ∃ a c xs, abs xs = M ∧ xs.length = M.length ∧ M.length ≤ 64 ∧ wr.cell? ⟨q, 0, none⟩ = some (.slice a M.length c) ∧ wr.cell? ⟨q, 1, none⟩ = some (.int .i64 (m' : Int)) ∧ q < wr.heap.size ∧ ∀ W, Chg no wr W → Bks W (.slice a M.length c) xs ∧ W.cell? ⟨q, 0, none⟩ = some (.slice a M.length c) ∧ W.cell? ⟨q, 1, none⟩ = some (.int .i64 (m' : Int)) ∧ q < W.heap.size := by
  obtain ⟨F, G, h1, h2, _⟩ := h
  obtain ⟨v, xs, D, S, rfl, h3, h4, h5⟩ := h2
  obtain ⟨a, c, rfl⟩ := S.shape
  have c0 := S.cells
  rw [abs_len] at *
  refine ⟨a, c, xs, rfl, rfl, by omega, c0.1, c0.2.1, c0.2.2.2.2, fun W k => ?_⟩
  have c1 := (S.same k).cells
  exact ⟨(S.same k).bks, c1.1, c1.2.1, c1.2.2.2.2⟩

theorem Alb.ok (h : Alb w p q L M m m' Q o wr) : okL L ∧ L.length ≤ m ∧ m ≤ 64 := by
  obtain ⟨F, G, h1, _⟩ := h
  exact h1.ok

theorem Alb.bytes (h : Alb w p q L M m m' Q o wr) : ∀ b ∈ L, Bytes b.2 := by
  obtain ⟨F, G, h1, _⟩ := h
  exact h1.bytes
end

end Go.Proofs.Ytedhlidmmmlemaa.st
