/- Two stashes of the program. -/
import Derived.Test.YtedhlidmmmlemaaLoc
import Derived.Test.YtedhlidmmmlemaaOrp
namespace Go.Proofs.Ytedhlidmmmlemaa.st
open Go.ChangeShapes Go.WideShapes Go.ChangeAt Go.RowKit Go.Proofs.Ytedhlidmmmlemaa.hp
set_option linter.unusedVariables false
set_option linter.unusedSimpArgs false

/-- Two stashes, made behind w. -/
def Two (w : World) (p q : Nat) (L M : List Bk) (m m' : Nat) (wr : World) : Prop := ∃ F G, St 64 36 F p L m wr ∧ St 64 36 G q M m' wr ∧ (∀ b, F b → ¬ G b) ∧ (∀ b, F b → w.heap.size ≤ b) ∧ (∀ b, G b → w.heap.size ≤ b) ∧ Chg no w wr

section
variable {w wr w' : World} {p q m m' : Nat} {L M : List Bk}

theorem Two.same (h : Two w p q L M m m' wr) (k : Chg no wr w') : Two w p q L M m m' w' := by
  obtain ⟨F, G, h1, h2, h3, h4, h5, h6⟩ := h
  exact ⟨F, G, h1.same k, h2.same k, h3, h4, h5, h6.then k⟩

theorem Two.chg (h : Two w p q L M m m' wr) : Chg no w wr := by
  obtain ⟨F, G, h1, h2, h3, h4, h5, h6⟩ := h
  exact h6

theorem Two.ok (h : Two w p q L M m m' wr) : okL L ∧ L.length ≤ m ∧ m ≤ 64 := by
  obtain ⟨F, G, h1, _⟩ := h
  exact h1.ok

theorem Two.len (h : Two w p q L M m m' wr) : Calls Try.prog 19 #[pt p] wr fun e w' => e = .returned (.int .i64 (L.length : Nat)) ∧ w' = wr := by
  obtain ⟨F, G, h1, _⟩ := h
  exact len_any h1

theorem Two.most (h : Two w p q L M m m' wr) : Calls Try.prog 20 #[pt p] wr fun e w' => e = .returned (.int .i64 (m : Nat)) ∧ w' = wr := by
  obtain ⟨F, G, h1, _⟩ := h
  exact most_any h1

theorem Two.ids (h : Two w p q L M m m' wr) : Calls Try.prog 22 #[pt p] wr fun e w' => ∃ a c, e = .returned (.slice a L.length c) ∧ Lies (Old w') w' (.slice a L.length c) ((L.map (·.1)).map (Value.int .i64)) ∧ Two w p q L M m m' w' := by
  have h0 := h
  obtain ⟨F, G, h1, _⟩ := h
  refine (ids_any h1).mono ?_
  rintro e w' ⟨a, c, rfl, l, k⟩
  exact ⟨a, c, rfl, Lies.old l, h0.same k⟩

theorem Two.all1 (h : Two w p q L M m m' wr) : Calls Try.prog 26 #[pt p] wr fun e w' => ∃ a c ys, e = .returned (.slice a ys.length c) ∧ abs ys = L ∧ Bks w' (.slice a ys.length c) ys ∧ Two w p q L M m m' w' := by
  have h0 := h
  obtain ⟨F, G, h1, _⟩ := h
  refine (all_any h1).mono ?_
  rintro e w' ⟨a, c, ys, rfl, h2, h3⟩
  exact ⟨a, c, ys, rfl, h2, h3.bks, h0.same h3.chg⟩

theorem Two.all2 (h : Two w p q L M m m' wr) : Calls Try.prog 26 #[pt q] wr fun e w' => ∃ a c ys, e = .returned (.slice a ys.length c) ∧ abs ys = M ∧ Bks w' (.slice a ys.length c) ys ∧ Chg no wr w' ∧ Two w p q L M m m' w' := by
  have h0 := h
  obtain ⟨F, G, h1, h2, _⟩ := h
  refine (all_any h2).mono ?_
  rintro e w' ⟨a, c, ys, rfl, h2, h3⟩
  exact ⟨a, c, ys, rfl, h2, h3.bks, h3.chg, h0.same h3.chg⟩

theorem Two.has (h : Two w p q L M m m' wr) (id : Int) : Calls Try.prog 18 #[pt p, .int .i64 id] wr fun e w' => e = .returned (.bool (hasL L id)) ∧ Two w p q L M m m' w' ∧ Chg no wr w' := by
  have h0 := h
  obtain ⟨F, G, h1, _⟩ := h
  refine (has_any h1 id).mono ?_
  rintro e w' ⟨rfl, k⟩
  exact ⟨rfl, h0.same k, k⟩

/-- .. and what else lay in W0 stays but for F0. -/
def Twi (w W0 : World) (F0 : Nat → Prop) (p q : Nat) (L M : List Bk) (m m' : Nat) (wr : World) : Prop := ∃ F G, St 64 36 F p L m wr ∧ St 64 36 G q M m' wr ∧ (∀ b, F b → ¬ G b) ∧ (∀ b, F b → w.heap.size ≤ b) ∧ (∀ b, G b → w.heap.size ≤ b) ∧ Chg no w wr ∧ (∀ b, F b → F0 b ∨ W0.heap.size ≤ b) ∧ Chg F0 W0 wr

variable {W0 : World} {F0 : Nat → Prop}

theorem Twi.two (h : Twi w W0 F0 p q L M m m' wr) : Two w p q L M m m' wr := by
  obtain ⟨F, G, h1, h2, h3, h4, h5, h6, _⟩ := h
  exact ⟨F, G, h1, h2, h3, h4, h5, h6⟩

theorem Twi.chg (h : Twi w W0 F0 p q L M m m' wr) : Chg F0 W0 wr := by
  obtain ⟨F, G, h1, h2, h3, h4, h5, h6, h7, h8⟩ := h
  exact h8

theorem Two.idsI (h : Two w p q L M m m' wr) : Calls Try.prog 22 #[pt p] wr fun e w' => ∃ a c F0, e = .returned (.slice a L.length c) ∧ (∀ W, Chg F0 w' W → ∀ k, k < L.length → ∃ y, a = some y ∧ W.cell? (y.add k) = some (.int .i64 ((L.map (·.1)).getD k 0)) ∧ y.block < w'.heap.size) ∧ Twi w w' F0 p q L M m m' w' := by
  obtain ⟨F, G, h1, h2, h3, h4, h5, h6⟩ := h
  refine (ids_any h1).mono ?_
  rintro e w' ⟨a, c, rfl, l, k⟩
  have hlt := h1.lt
  refine ⟨a, c, F, rfl, fun W kW j hj => ?_, F, G, h1.same k, h2.same k, h3, h4, h5, h6.then k, fun b hb => .inl hb, Chg.refl _ _⟩
  obtain ⟨y, rfl, hy⟩ := lies_int l j (by rw [List.length_map]; exact hj)
  obtain ⟨y', hy1, hy2, _⟩ := (l.slice).choose_spec.choose_spec.2 j (.int .i64 ((L.map (·.1)).getD j 0)) (by rw [List.getElem?_map, List.getD_eq_getElem?_getD, List.getElem?_eq_getElem (by rw [List.length_map]; exact hj)]; rfl)
  have e1 : (l.slice).choose = some y := by
    have := (l.slice).choose_spec.choose_spec.1
    injection this with e
    exact e.symm
  rw [e1] at hy1
  obtain rfl : y = y' := by injection hy1
  refine ⟨y, rfl, kW.cell hy (by rw [add_block]; intro hb; have := hlt _ hb; have := hy2.1; omega), hy2.2⟩

theorem Twi.take (h : Twi w W0 F0 p q L M m m' wr) (id : Int) : Calls Try.prog 13 #[pt p, .int .i64 id] wr fun e w' => ∃ a c, e = .returned (.tuple #[bv (getL L id).1 a (getL L id).2.length c, .bool (hasL L id)]) ∧ Lies (Old w') w' (.slice a (getL L id).2.length c) ((getL L id).2.map (Value.int .u8)) ∧ Twi w W0 F0 p q (delL L id) M m m' w' := by
  obtain ⟨F, G, h1, h2, h3, h4, h5, h6, h7, h8⟩ := h
  refine (take_any h1 id).mono ?_
  rintro e w' ⟨a, c, rfl, l, S, k⟩
  exact ⟨a, c, rfl, Lies.old l, F, G, S, h2.chg k (fun b hb hf => h3 b hf hb), h3, h4, h5, h6.trans k (fun b hb => .inr (h4 b hb)), h7, h8.trans k h7⟩

theorem Twi.put (h : Twi w W0 F0 p q L M m m' wr) (id : Int) (a : Option Addr) (l c : Nat) (zs : List Int) (hv : Lies (Old wr) wr (.slice a l c) (zs.map (Value.int .u8))) (hb : Bytes zs) (hl : zs.length = l) :
    Calls Try.prog 12 #[pt p, bv id a l c] wr fun e w' => e = .returned (.bool (decide (okB (id, zs)))) ∧ Twi w W0 F0 p q (putA L (id, zs)) M (mostA L m (id, zs)) m' w' := by
  obtain ⟨F, G, h1, h2, h3, h4, h5, h6, h7, h8⟩ := h
  refine (put_any h1 id a l c zs hv hb hl).mono ?_
  rintro e w' ⟨rfl, S, k⟩
  have s1 := h6.size
  have s2 := h8.size
  have hlt := h2.lt
  refine ⟨rfl, _, G, S, h2.chg k (fun b hb hf => h3 b hf hb), ?_, ?_, h5, h6.trans k (fun b hb => .inr (h4 b hb)), ?_, h8.trans k h7⟩
  · rintro b (hb | hb) hg
    · exact h3 b hb hg
    · have := hlt b hg
      have := hb.1
      omega
  · rintro b (hb | hb)
    · exact h4 b hb
    · have := hb.1
      omega
  · rintro b (hb | hb)
    · exact h7 b hb
    · have := hb.1
      exact .inr (by omega)

theorem Twi.same (h : Twi w W0 F0 p q L M m m' wr) (k : Chg no wr w') : Twi w W0 F0 p q L M m m' w' := by
  obtain ⟨F, G, h1, h2, h3, h4, h5, h6, h7, h8⟩ := h
  exact ⟨F, G, h1.same k, h2.same k, h3, h4, h5, h6.then k, h7, h8.trans k (fun b hb => hb.elim)⟩
end


theorem Twi.bytes {w W0 wr : World} {F0 : Nat → Prop} {p q m m' : Nat} {L M : List Bk} (h : Twi w W0 F0 p q L M m m' wr) : ∀ b ∈ L, Bytes b.2 := by
  obtain ⟨F, G, h1, _⟩ := h
  exact h1.bytes

theorem Two.bytes {w wr : World} {p q m m' : Nat} {L M : List Bk} (h : Two w p q L M m m' wr) : ∀ b ∈ L, Bytes b.2 := by
  obtain ⟨F, G, h1, _⟩ := h
  exact h1.bytes

theorem Twi.putl {w W0 wr : World} {F0 : Nat → Prop} {p q m m' : Nat} {L M : List Bk} (h : Twi w W0 F0 p q L M m m' wr) (id : Int) (a : Option Addr) (l c : Nat) (zs : List Int) (hv : Lies (Old wr) wr (.slice a l c) (zs.map (Value.int .u8))) (hb : Bytes zs) (hl : zs.length = l) (W : World) (kW : Chg no wr W) :
    Calls Try.prog 12 #[pt p, bv id a l c] W fun e w' => e = .returned (.bool (decide (okB (id, zs)))) ∧ Twi w W0 F0 p q (putA L (id, zs)) M (mostA L m (id, zs)) m' w' ∧ ∀ g o, wr.heap.size ≤ g → W.heap[g]? = some o → w'.heap[g]? = some o := by
  obtain ⟨F, G, h1, h2, h3, h4, h5, h6, h7, h8⟩ := h
  have hl1 := h1.lt
  refine (put_any (h1.same kW) id a l c zs (Lies.later hv kW) hb hl).mono ?_
  rintro e w' ⟨rfl, S, k⟩
  have s1 := h6.size
  have s2 := h8.size
  have s3 := kW.size
  have hlt := h2.lt
  refine ⟨rfl, ⟨_, G, S, (h2.same kW).chg k (fun b hb hf => h3 b hf hb), ?_, ?_, h5, (h6.then kW).trans k (fun b hb => .inr (h4 b hb)), ?_, (h8.trans kW (fun b hb => hb.elim)).trans k h7⟩, fun g o hg hgo => k.heap hgo (fun e => by have := hl1 g e; omega)⟩
  · rintro b (hb | hb) hg
    · exact h3 b hb hg
    · have := hlt b hg
      have := hb.1
      omega
  · rintro b (hb | hb)
    · exact h4 b hb
    · have := hb.1
      omega
  · rintro b (hb | hb)
    · exact h7 b hb
    · have := hb.1
      exact .inr (by omega)

/-- Two stashes of the same lists. -/
theorem two_new {w w1 : World} (k : Chg no w w1) {p q m m' : Nat} {L M : List Bk} {F G : Nat → Prop} {wa wb : World} (h1 : St 64 36 F p L m wa) (hF : ∀ b, F b → w1.heap.size ≤ b) (k1 : Chg no w1 wa) (h2 : St 64 36 G q M m' wb) (hG : ∀ b, G b → wa.heap.size ≤ b) (k2 : Chg no wa wb) : Two w p q L M m m' wb := by
  have s1 := k.size
  have s2 := k1.size
  have hlt := h1.lt
  exact ⟨F, G, h1.same k2, h2, fun b hb hg => by have := hlt b hb; have := hG b hg; omega, fun b hb => by have := hF b hb; omega, fun b hb => by have := hG b hb; omega, (k.then k1).then k2⟩

end Go.Proofs.Ytedhlidmmmlemaa.st
