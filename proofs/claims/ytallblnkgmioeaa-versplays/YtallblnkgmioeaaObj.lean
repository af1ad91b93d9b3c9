/- The landed object in memory: a box, its bytes; the small calls on it. -/
import Derived.Test.YtallblnkgmioeaaPkd
import Derived.Test.YtallblnkgmioeaaWay
namespace Go.Proofs.Ytallblnkgmioeaa.st
open Go.ChangeShapes Go.WideShapes Go.ChangeAt Go.RowKit Go.Proofs.Ytallblnkgmioeaa.hp Go.Proofs.Ytallblnkgmioeaa.bt
set_option linter.unusedVariables false
set_option linter.unusedSimpArgs false

/-- Its box p, its bytes in the block g. -/
structure Ob (p g c : Nat) (w : World) (n : Nat) (bs : List Int) : Prop where
  box : w.heap[p]? = some (.cells #[.int .i64 (n : Int), .slice (some ⟨g, 0, none⟩) ((n + 7) / 8) c] 53 (0, 0))
  row : w.ownsRow 0 5 1 (.slice (some ⟨g, 0, none⟩) ((n + 7) / 8) c) ((n + 7) / 8) (bs.map (Value.int .u8))
  ne : p ≠ g

def Bt (F : Nat → Prop) (w : World) (v : Value) (x : List Int) : Prop :=
  ∃ p g c, v = .pointer (some ⟨p, 0, none⟩) ∧ Ob p g c w x.length (bytesOf x) ∧ (∀ k, F k ↔ (k = p ∨ k = g)) ∧ Bin x ∧ 1 ≤ x.length ∧ x.length ≤ 127

section
variable {F G : Nat → Prop} {w w' : World} {v : Value} {x bs : List Int} {p g c n : Nat}

theorem Ob.cells (h : Ob p g c w n bs) : w.cell? ⟨p, 0, none⟩ = some (.int .i64 (n : Int)) ∧ w.cell? ⟨p, 1, none⟩ = some (.slice (some ⟨g, 0, none⟩) ((n + 7) / 8) c) ∧ p < w.heap.size := by
  have := h.box
  refine ⟨?_, ?_, lt_of_block this⟩ <;> simp [World.cell?, this]

theorem Ob.chg (h : Ob p g c w n bs) (k : Chg G w w') (h1 : ¬ G p) (h2 : ¬ G g) : Ob p g c w' n bs :=
  ⟨k.heap h.box h1, k.owns h.row (fun j hj => by cases hj; exact h2), h.ne⟩

theorem Ob.later (h : Ob p g c w n bs) (k : Chg no w w') : Ob p g c w' n bs := h.chg k id id

theorem Ob.size (h : Ob p g c w n bs) (hn : 1 ≤ n) : g < w.heap.size := by
  rcases h.row.2 with ⟨hv, _⟩ | ⟨g', cap, cur, hv, _, hg, _⟩
  · cases hv
  · cases hv
    exact lt_of_block hg

theorem Ob.len (h : Ob p g c w n bs) : bs.length = (n + 7) / 8 := by
  have := h.row.1
  simpa using this

/-- A byte of its. -/
theorem Ob.at (h : Ob p g c w n bs) (k : Nat) (hk : k < (n + 7) / 8) : w.cell? ⟨g, k, none⟩ = some (.int .u8 (bs.getD k 0)) ∧ w.frozen? ⟨g, k, none⟩ = false := by
  obtain ⟨g', e, _, h2, h3⟩ := owns_at (k := k) (u := .int .u8 (bs.getD k 0)) h.row (by rw [List.getElem?_map, List.getD_eq_getElem?_getD, List.getElem?_eq_getElem (by rw [h.len]; exact hk)]; rfl)
  cases e
  exact ⟨h2, h3⟩

/-- A byte of its set. -/
theorem Ob.set (h : Ob p g c w n bs) (k : Nat) (u : Int) : Ob p g c (w.setCell ⟨g, k, none⟩ (.int .u8 u)) n (bs.set k u) := by
  refine ⟨?_, ?_, h.ne⟩
  · exact ((Chg.refl (fun j => j = g) w).setCell ⟨g, k, none⟩ (.int .u8 u) (.inl rfl)).heap h.box h.ne
  · have := h.row.stored k (.int .u8 u)
    rw [List.map_set]
    exact this.1

theorem Ob.lies (h : Ob p g c w n bs) : Lies (fun k => k = g) w (.slice (some ⟨g, 0, none⟩) ((n + 7) / 8) c) (bs.map (Value.int .u8)) :=
  Lies.of_owns h.row (fun k hk => by cases hk; rfl)

theorem Bt.keep (h : Bt F w v x) (k : Chg G w w') (hn : ∀ j, F j → ¬ G j) : Bt F w' v x := by
  obtain ⟨p, g, c, rfl, o, hF, rest⟩ := h
  exact ⟨p, g, c, rfl, o.chg k (hn p ((hF p).2 (.inl rfl))) (hn g ((hF g).2 (.inr rfl))), hF, rest⟩

theorem Bt.facts (h : Bt F w v x) : Bin x ∧ 1 ≤ x.length ∧ x.length ≤ 127 ∧ (∃ p, v = .pointer (some p)) ∧ ∀ k, F k → k < w.heap.size := by
  obtain ⟨p, g, c, rfl, o, hF, h1, h2, h3⟩ := h
  refine ⟨h1, h2, h3, ⟨_, rfl⟩, fun k hk => ?_⟩
  rcases (hF k).1 hk with rfl | rfl
  · exact o.cells.2.2
  · exact o.size h2

end

theorem length_any (w : World) (n : Nat) (hn : n ≤ 127) : Calls Try.prog 25 #[.int .i64 n] w fun e w' => e = .returned (.int .i64 (((n + 7) / 8 : Nat) : Int)) ∧ w' = w := by
  have hni : (n : Int) ≤ 127 := by omega
  have hq : ((n : Int) + 7).tdiv 8 = (((n + 7) / 8 : Nat) : Int) := tdiv_nat (n + 7) 8
  go_enter Try.func25, Try.ntmps25
  go_wp2
  go_ret
  exact ⟨ret_int hq, rfl⟩

theorem has_no (w : World) (v : Value) (b : Int) (hb : b < 0) : Calls Try.prog 28 #[v, .int .i64 b] w fun e w' => e = .returned (.bool false) ∧ w' = w := by
  have h0 : ¬ (0 ≤ b) := by omega
  go_enter Try.func28, Try.ntmps28
  go_wp2
  go_ret
  exact ⟨rfl, rfl⟩

theorem has_bit {w : World} {p g c n : Nat} {bs : List Int} (o : Ob p g c w n bs) (b : Int) (hb : 0 ≤ b) : Calls Try.prog 28 #[.pointer (some ⟨p, 0, none⟩), .int .i64 b] w fun e w' => e = .returned (.bool (decide (b < (n : Int)))) ∧ w' = w := by
  obtain ⟨c0, c1, _⟩ := o.cells
  clear o
  go_enter Try.func28, Try.ntmps28
  go_wp2
  go_ret
  exact ⟨rfl, rfl⟩

theorem place_any (w : World) (b : Nat) (hb : b ≤ 126) : Calls Try.prog 29 #[.int .i64 b] w fun e w' => e = .returned (.tuple #[.int .i64 ((b / 8 : Nat) : Int), .int .u8 (2 ^ (b % 8))]) ∧ ∃ n, w' = w.drewN n := by
  have hbi : (b : Int) ≤ 126 := by omega
  obtain ⟨k, hk⟩ : ∃ k, b / 8 = k := ⟨_, rfl⟩
  obtain ⟨t, ht⟩ : ∃ t, b % 8 = t := ⟨_, rfl⟩
  have hq : (b : Int).tdiv 8 = (k : Int) := by
    have := tdiv_nat b 8
    rw [hk] at this
    exact this
  have hr : (b : Int).tmod 8 = (t : Int) := by
    rw [← ht]
    rfl
  have ht8 : t < 8 := by omega
  have hti : (t : Int) ≤ 7 := by omega
  have ht0 : ¬ (t : Int) < 0 := by omega
  rw [hk, ht]
  have hp : (2 : Int) ^ t % 256 = 2 ^ t := by
    have := pow_lt8 ⟨t, ht8⟩
    simp only at this
    rw [pow_int]
    obtain ⟨P, hP⟩ : ∃ P, 2 ^ t = P := ⟨_, rfl⟩
    rw [hP] at this ⊢
    exact Int.emod_eq_of_lt (by omega) (by omega)
  have he : Ending.returned (.tuple #[.int .i64 (k : Int), .int .u8 (2 ^ t % 256)]) = .returned (.tuple #[.int .i64 (k : Int), .int .u8 (2 ^ t)]) := by rw [hp]
  clear hp
  go_enter Try.func29, Try.ntmps29
  go_wp2_with fail
  go_region
  go_wp2
  go_ret2
  exact ⟨he, 1, rfl⟩

end Go.Proofs.Ytallblnkgmioeaa.st
