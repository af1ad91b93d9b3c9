/- Three objects side by side, their blocks from lo to hi. -/
import Derived.Test.YtallblnkgmioeaaTwo
namespace Go.Proofs.Ytallblnkgmioeaa.st
open Go.ChangeShapes Go.WideShapes Go.ChangeAt Go.RowKit Go.Proofs.Ytallblnkgmioeaa.hp Go.Proofs.Ytallblnkgmioeaa.bt
set_option linter.unusedVariables false
set_option linter.unusedSimpArgs false
variable {Bt : (Nat → Prop) → World → Value → List Int → Prop}

def Tri (Bt : (Nat → Prop) → World → Value → List Int → Prop) (lo hi : Nat) (w : World) (a b c : Value) (x y z : List Int) : Prop :=
  ∃ F G H, Bt F w a x ∧ Bt G w b y ∧ Bt H w c z ∧ (∀ k, F k → ¬ G k) ∧ (∀ k, F k → ¬ H k) ∧ (∀ k, G k → ¬ H k) ∧ (∀ k, F k → lo ≤ k ∧ k < hi) ∧ (∀ k, G k → lo ≤ k ∧ k < hi) ∧ (∀ k, H k → lo ≤ k ∧ k < hi)

theorem Tri.later (V : Ways Bt) {lo hi : Nat} {w w' : World} {a b c : Value} {x y z : List Int} (h : Tri Bt lo hi w a b c x y z) (k : Chg no w w') : Tri Bt lo hi w' a b c x y z := by
  obtain ⟨F, G, H, p, q, r, rest⟩ := h
  exact ⟨F, G, H, V.keep p k (fun _ _ h => h), V.keep q k (fun _ _ h => h), V.keep r k (fun _ _ h => h), rest⟩

theorem Tri.turn {lo hi : Nat} {w : World} {a b c : Value} {x y z : List Int} (h : Tri Bt lo hi w a b c x y z) : Tri Bt lo hi w b c a y z x := by
  obtain ⟨F, G, H, p, q, r, d1, d2, d3, l1, l2, l3⟩ := h
  exact ⟨G, H, F, q, r, p, d3, fun k hg hf => d1 k hf hg, fun k hh hf => d2 k hf hh, l2, l3, l1⟩

/-- One of the three, for what only reads. -/
theorem Tri.at (V : Ways Bt) {lo hi : Nat} {w0 w : World} {a b c : Value} {x y z : List Int} (h : Tri Bt lo hi w a b c x y z) (hlo : w0.heap.size ≤ lo) (k : Chg no w0 w) : Nob Bt w0 w a x := by
  obtain ⟨F, G, H, p, q, r, d1, d2, d3, l1, l2, l3⟩ := h
  exact ⟨F, p, fun k hk => by have := (l1 k hk).1; omega, k⟩

theorem Tri.flip (V : Ways Bt) {lo hi : Nat} {w : World} {a b c : Value} {x y z l : List Int} {K : Nat → Prop} {s : Option Addr} {d : Nat} (h : Tri Bt lo hi w a b c x y z) (hl : Lies K w (.slice s l.length d) (l.map (Value.int .i64))) (hK : ∀ k, K k → k < lo ∨ hi ≤ k) (hd : l.length ≤ d) (hll : l.length ≤ 100000) :
    Calls Try.prog 13 #[a, .slice s l.length d] w fun e w' => e = .returned (.bool (okF x.length l)) ∧ Tri Bt lo hi w' a b c (flipI x l).1 y z ∧ Chg (fun k => lo ≤ k ∧ k < hi) w w' := by
  obtain ⟨F, G, H, p, q, r, d1, d2, d3, l1, l2, l3⟩ := h
  refine (V.flip p hl (fun k hk hf => by have := hK k hk; have := l1 k hf; omega) hd hll).mono ?_
  rintro e' w' ⟨rfl, q1, q2⟩
  exact ⟨rfl, ⟨F, G, H, q1, V.keep q q2 (fun k hg hf => d1 k hf hg), V.keep r q2 (fun k hh hf => d2 k hf hh), d1, d2, d3, l1, l2, l3⟩, q2.mono (fun k hk => .inl (l1 k hk))⟩

/-- Three made one after the other. -/
theorem Tri.mk (V : Ways Bt) {w0 w1 w2 w3 : World} {a b c : Value} {x y z : List Int} (h1 : Nob Bt w0 w1 a x) (h2 : Nob Bt w1 w2 b y) (h3 : Nob Bt w2 w3 c z) : Tri Bt w0.heap.size w3.heap.size w3 a b c x y z := by
  obtain ⟨F, p, f, k1⟩ := h1
  obtain ⟨G, q, g, k2⟩ := h2
  obtain ⟨H, r, h, k3⟩ := h3
  have lF := (V.facts p).2.2.2.2
  have lG := (V.facts q).2.2.2.2
  have lH := (V.facts r).2.2.2.2
  have s1 := k1.size
  have s2 := k2.size
  have s3 := k3.size
  exact ⟨F, G, H, V.keep p (k2.then k3) (fun _ _ h => h), V.keep q k3 (fun _ _ h => h), r, fun k a b => by have := lF k a; have := g k b; omega, fun k a b => by have := lF k a; have := h k b; omega, fun k a b => by have := lG k a; have := h k b; omega, fun k a => ⟨f k a, by have := lF k a; omega⟩, fun k a => ⟨by have := g k a; omega, by have := lG k a; omega⟩, fun k a => ⟨by have := h k a; omega, lH k a⟩⟩

end Go.Proofs.Ytallblnkgmioeaa.st
