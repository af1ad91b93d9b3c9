/- Two objects side by side. -/
import Derived.Test.YtallblnkgmioeaaFir
namespace Go.Proofs.Ytallblnkgmioeaa.st
open Go.ChangeShapes Go.WideShapes Go.ChangeAt Go.RowKit Go.Proofs.Ytallblnkgmioeaa.hp Go.Proofs.Ytallblnkgmioeaa.bt
set_option linter.unusedVariables false
set_option linter.unusedSimpArgs false
variable {Bt : (Nat → Prop) → World → Value → List Int → Prop}

def Two (Bt : (Nat → Prop) → World → Value → List Int → Prop) (w0 w : World) (v c : Value) (x y : List Int) : Prop :=
  ∃ F G, Bt F w v x ∧ Bt G w c y ∧ (∀ k, F k → ¬ G k) ∧ (∀ k, F k → w0.heap.size ≤ k) ∧ (∀ k, G k → w0.heap.size ≤ k) ∧ Chg no w0 w

theorem Two.later (V : Ways Bt) {w0 w w' : World} {v c : Value} {x y : List Int} (h : Two Bt w0 w v c x y) (k : Chg no w w') : Two Bt w0 w' v c x y := by
  obtain ⟨F, G, a, b, d, e, f, g⟩ := h
  exact ⟨F, G, V.keep a k (fun _ _ h => h), V.keep b k (fun _ _ h => h), d, e, f, g.then k⟩

theorem Two.swap {w0 w : World} {v c : Value} {x y : List Int} (h : Two Bt w0 w v c x y) : Two Bt w0 w c v y x := by
  obtain ⟨F, G, a, b, d, e, f, g⟩ := h
  exact ⟨G, F, b, a, fun k hg hf => d k hf hg, f, e, g⟩

theorem Two.left {w0 w : World} {v c : Value} {x y : List Int} (h : Two Bt w0 w v c x y) : Nob Bt w0 w v x := by
  obtain ⟨F, G, a, b, d, e, f, g⟩ := h
  exact ⟨F, a, e, g⟩

theorem Two.chg {w0 w : World} {v c : Value} {x y : List Int} (h : Two Bt w0 w v c x y) : Chg no w0 w := h.left.chg

theorem Two.copy (V : Ways Bt) {w0 w : World} {v : Value} {x : List Int} (h : Nob Bt w0 w v x) : Calls Try.prog 11 #[v] w fun e w' => ∃ p, e = .returned (.pointer (some p)) ∧ Two Bt w0 w' v (.pointer (some p)) x x := by
  obtain ⟨F, a, hF, c⟩ := h
  refine (V.copy a).mono ?_
  rintro e w' ⟨p, F', rfl, q1, q2, q3⟩
  have hlow := (V.facts a).2.2.2.2
  exact ⟨p, rfl, F, F', V.keep a q3 (fun _ _ h => h), q1, fun k h1 h2 => by have := hlow k h1; have := q2 k h2; omega, hF, fun k hk => by have := q2 k hk; have := c.size; omega, c.then q3⟩

/-- Bits of the first turned; their list lies apart. -/
theorem Two.flip (V : Ways Bt) {w0 w : World} {v c : Value} {x y l : List Int} {K : Nat → Prop} {b : Option Addr} {d : Nat} (h : Two Bt w0 w v c x y) (hl : Lies K w (.slice b l.length d) (l.map (Value.int .i64))) (hK : ∀ k, K k → k < w0.heap.size) (hd : l.length ≤ d) (hll : l.length ≤ 100000) :
    Calls Try.prog 13 #[v, .slice b l.length d] w fun e w' => e = .returned (.bool (okF x.length l)) ∧ Two Bt w0 w' v c (flipI x l).1 y := by
  obtain ⟨F, G, a, bb, dd, e, f, g⟩ := h
  refine (V.flip a hl (fun k hk hf => by have := hK k hk; have := e k hf; omega) hd hll).mono ?_
  rintro e' w' ⟨rfl, q1, q2⟩
  exact ⟨rfl, F, G, q1, V.keep bb q2 (fun k hg hf => dd k hf hg), dd, e, f, g.trans q2 (fun k hk => .inr (e k hk))⟩

/-- .. their list a literal. -/
theorem Two.flip_new (V : Ways Bt) {w0 w : World} {v c : Value} {x y : List Int} (l : List Int) (h : Two Bt w0 w v c x y) (hl : l.length ≤ 100) :
    Calls Try.prog 13 #[v, .slice (some ⟨w.heap.size, 0, none⟩) l.length l.length] (w.alloc (.cells (l.map (Value.int .i64)).toArray 3)) fun e w' => e = .returned (.bool (okF x.length l)) ∧ Two Bt w0 w' v c (flipI x l).1 y := by
  obtain ⟨F, G, a, bb, dd, e, f, g⟩ := h
  have hlow := (V.facts a).2.2.2.2
  have k1 : Chg no w (w.alloc (.cells (l.map (Value.int .i64)).toArray 3)) := (Chg.refl no w).alloc _
  have hL : Lies (fun k => k = w.heap.size) (w.alloc (.cells (l.map (Value.int .i64)).toArray 3)) (.slice (some ⟨w.heap.size, 0, none⟩) l.length l.length) (l.map (Value.int .i64)) := by
    refine .inr ⟨_, l.length, by rw [List.length_map], fun _ => rfl, fun j u hu => ?_⟩
    exact news_at (w := w) (xs := l.map (Value.int .i64)) (t := 3) j u hu
  refine (V.flip (V.keep a k1 (fun _ _ h => h)) hL (fun k hk hf => by have := hlow k hf; omega) (Nat.le_refl _) (by omega)).mono ?_
  rintro e' w' ⟨rfl, q1, q2⟩
  exact ⟨rfl, F, G, q1, V.keep (V.keep bb k1 (fun _ _ h => h)) q2 (fun k hg hf => dd k hf hg), dd, e, f, (g.then k1).trans q2 (fun k hk => .inr (e k hk))⟩

theorem live_zeros (N b : Nat) (h : b < N) : liveI (List.replicate N 0) (b : Int) = 0 := by
  unfold liveI
  rw [List.length_replicate, if_pos ⟨by omega, by omega⟩, Int.toNat_natCast, List.getD_eq_getElem?_getD, List.getElem?_replicate, if_pos h]
  rfl

theorem live_turned (N b : Nat) (h : b < N) : liveI (flipX (List.replicate N 0) [(b : Int)]) (b : Int) = 1 := by
  unfold liveI
  rw [flipX_len, List.length_replicate, if_pos ⟨by omega, by omega⟩, Int.toNat_natCast, flipX_get _ _ _ (by rw [List.length_replicate]; exact h), List.getD_eq_getElem?_getD, List.getElem?_replicate, if_pos h]
  simp

theorem flipI_one (x : List Int) (b : Nat) (h : b < x.length) : flipI x [(b : Int)] = (flipX x [(b : Int)], true) := by
  unfold flipI
  rw [if_pos (by unfold okF; simp; omega)]

theorem flipI_same (x : List Int) (b : Nat) (h : b < x.length) : flipI x [(b : Int), (b : Int)] = (flipX x [(b : Int)], true) := by
  unfold flipI
  rw [if_pos (by unfold okF; simp; omega)]
  have := flipX_again x [(b : Int)] (b : Int) (by simp)
  simp only [List.cons_append, List.nil_append] at this
  rw [this]

theorem okF_one (N b : Nat) (h : b < N) : okF N [(b : Int)] = true := by unfold okF; simp; omega
theorem okF_same (N b : Nat) (h : b < N) : okF N [(b : Int), (b : Int)] = true := by unfold okF; simp; omega

end Go.Proofs.Ytallblnkgmioeaa.st
