/- The reader in memory, and contracts of its functions. -/
import Derived.Test.YtlcbfdbnjohicaaRnum
import Derived.Deep.Slices
namespace Go.Proofs.Ytlcbfdbnjohicaa.st
open Go.ChangeShapes Go.WideShapes Go.ChangeAt Go.RowKit Go.Proofs.Ytlcbfdbnjohicaa.hp Go.Proofs.Ytlcbfdbnjohicaa.dg
set_option linter.unusedVariables false

/-- The reader at block p, in the blocks of F: what is left (in blocks of J), why it failed. -/
structure Reo (w : World) (p : Nat) (F J : Nat → Prop) (a : Option Addr) (c : Nat) (zs : List Int) (er : Int) : Prop where
  blk : w.heap[p]? = some (.cells #[.slice a zs.length c, .int .i64 er] 69 (0, 0))
  lies : Lies J w (.slice a zs.length c) (zs.map (Value.int .u8))
  cap : zs.length ≤ c ∧ c ≤ 9223372036854775807
  byt : Bytes zs
  jp : ¬ J p
  jf : ∀ k, J k → F k
  fp : F p
  lt : ∀ k, F k → k < w.heap.size

def Rea (w : World) (p : Nat) (F : Nat → Prop) (zs : List Int) (er : Int) : Prop := ∃ J a c, Reo w p F J a c zs er

section
variable {w w' : World} {p : Nat} {F G J : Nat → Prop} {a : Option Addr} {c : Nat} {zs : List Int} {er : Int}

theorem Reo.chg (h : Reo w p F J a c zs er) (k : Chg G w w') (hn : ∀ k, F k → ¬ G k) : Reo w' p F J a c zs er :=
  ⟨k.heap h.blk (hn _ h.fp), h.lies.chg k (fun b hb => hn _ (h.jf b hb)), h.cap, h.byt, h.jp, h.jf, h.fp, fun b hb => Nat.lt_of_lt_of_le (h.lt b hb) k.size⟩

theorem Rea.chg (h : Rea w p F zs er) (k : Chg G w w') (hn : ∀ k, F k → ¬ G k) : Rea w' p F zs er := by
  obtain ⟨J, a, c, h⟩ := h
  exact ⟨J, a, c, h.chg k hn⟩

theorem Rea.same (h : Rea w p F zs er) (k : Chg no w w') : Rea w' p F zs er := h.chg k fun _ _ h => h

theorem Rea.lt (h : Rea w p F zs er) : ∀ k, F k → k < w.heap.size := by
  obtain ⟨J, a, c, h⟩ := h
  exact h.lt

theorem Rea.fp (h : Rea w p F zs er) : F p := by
  obtain ⟨J, a, c, h⟩ := h
  exact h.fp

theorem Reo.cells (h : Reo w p F J a c zs er) : w.cell? ⟨p, 0, none⟩ = some (.slice a zs.length c) ∧ w.cell? ⟨p, 1, none⟩ = some (.int .i64 er) ∧ w.frozen? ⟨p, 0, none⟩ = false ∧ w.frozen? ⟨p, 1, none⟩ = false := by
  simp [World.cell?, World.frozen?, h.blk]

theorem Reo.fail (h : Reo w p F J a c zs er) (e : Int) : Reo (w.setCell ⟨p, 1, none⟩ (.int .i64 e)) p F J a c zs e ∧ Chg (fun k => k = p) w (w.setCell ⟨p, 1, none⟩ (.int .i64 e)) := by
  have hC : Chg (fun k => k = p) w (w.setCell ⟨p, 1, none⟩ (.int .i64 e)) := (Chg.refl _ w).setCell _ _ (.inl rfl)
  refine ⟨⟨?_, h.lies.chg hC (fun k hk e => h.jp (e ▸ hk)), h.cap, h.byt, h.jp, h.jf, h.fp, fun k hk => by simpa using h.lt k hk⟩, hC⟩
  have := row_set (xs := [_, _]) h.blk 1 (.int .i64 e)
  simpa using this
end

/-- The reader behind a call that began in w. -/
def RAt (w : World) (p : Nat) (F : Nat → Prop) (s : List Int × Int) (w' : World) : Prop := Rea w' p F s.1 s.2 ∧ Chg (fun k => k = p) w w'

theorem take_failed {w : World} {p : Nat} {F : Nat → Prop} {zs : List Int} {er : Int} (h : Rea w p F zs er) (he : er ≠ 0) (n : Int) (al : Bool) :
    Calls Try.prog 44 #[.pointer (some ⟨p, 0, none⟩), .int .i64 n, .bool al] w fun e w' => e = .returned (.slice none 0 0) ∧ w' = w := by
  obtain ⟨J, a, c, h⟩ := h
  obtain ⟨c0, c1, c2, c3⟩ := h.cells
  clear h
  go_enter Try.func44, Try.ntmps44
  go_wp2
  go_ret
  exact ⟨rfl, rfl⟩

theorem take_range {w : World} {p : Nat} {F : Nat → Prop} {zs : List Int} (h : Rea w p F zs 0) (n : Int) :
    Calls Try.prog 44 #[.pointer (some ⟨p, 0, none⟩), .int .i64 n, .bool false] w fun e w' => e = .returned (.slice none 0 0) ∧ RAt w p F (zs, 1) w' := by
  obtain ⟨J, a, c, h⟩ := h
  obtain ⟨c0, c1, c2, c3⟩ := h.cells
  have hf := h.fail 1
  have HF : Hid (RAt w p F (zs, 1) (w.setCell ⟨p, 1, none⟩ (.int .i64 1))) := ⟨⟨_, _, _, hf.1⟩, hf.2⟩
  clear h hf
  go_enter Try.func44, Try.ntmps44
  go_wp2
  go_ret
  exact ⟨rfl, HF.out⟩

theorem take_short {w : World} {p : Nat} {F : Nat → Prop} {zs : List Int} (h : Rea w p F zs 0) (n : Int) (hn : (zs.length : Int) < n) :
    Calls Try.prog 44 #[.pointer (some ⟨p, 0, none⟩), .int .i64 n, .bool true] w fun e w' => e = .returned (.slice none 0 0) ∧ RAt w p F (zs, 3) w' := by
  obtain ⟨J, a, c, h⟩ := h
  obtain ⟨c0, c1, c2, c3⟩ := h.cells
  have hf := h.fail 3
  have HF : Hid (RAt w p F (zs, 3) (w.setCell ⟨p, 1, none⟩ (.int .i64 3))) := ⟨⟨_, _, _, hf.1⟩, hf.2⟩
  clear h hf
  go_enter Try.func44, Try.ntmps44
  go_wp2
  go_ret
  exact ⟨rfl, HF.out⟩

theorem lies_front {J : Nat → Prop} {w : World} {a : Option Addr} {l c n : Nat} {xs : List Value} (h : Lies J w (.slice a l c) xs) (hn : n ≤ xs.length) : Lies J w (.slice a n c) (xs.take n) := by
  rcases h with ⟨h1, rfl⟩ | ⟨x, cp, h1, h2, h3⟩
  · cases h1
    simp at hn
    subst hn
    exact .inl ⟨rfl, rfl⟩
  · cases h1
    refine .inr ⟨x, c, by simp [hn], fun he => h2 (by rintro rfl; simp at he), fun i u hu => h3 i u ?_⟩
    rw [List.getElem?_take] at hu
    split at hu
    · exact hu
    · cases hu

theorem lies_back {J : Nat → Prop} {w : World} {a : Option Addr} {l c n : Nat} {xs : List Value} (h : Lies J w (.slice a l c) xs) (hn : n ≤ xs.length) : Lies J w (.slice (a.map (fun x => x.add n)) (l - n) (c - n)) (xs.drop n) := by
  rcases h with ⟨h1, rfl⟩ | ⟨x, cp, h1, h2, h3⟩
  · cases h1
    exact .inl ⟨by simp, by simp⟩
  · cases h1
    refine .inr ⟨x.add n, c - n, by simp, fun he => ?_, fun i u hu => ?_⟩
    · rw [add_block]
      exact h2 (by rintro rfl; simp at he)
    · rw [List.getElem?_drop] at hu
      rw [Deep.add_add]
      exact h3 _ u hu

theorem lies_none {J : Nat → Prop} {w : World} {a : Option Addr} {l c n : Nat} {xs : List Value} (h : Lies J w (.slice a l c) xs) (hn : xs.length ≤ n) (hl : l - n = 0) : Lies J w (.slice a (l - n) 0) (xs.drop n) := by
  rw [hl, List.drop_of_length_le hn]
  rcases h with ⟨h1, rfl⟩ | ⟨x, cp, h1, h2, h3⟩
  · cases h1
    exact .inl ⟨rfl, rfl⟩
  · cases h1
    exact .inr ⟨x, 0, by simp, fun he => (he rfl).elim, fun i u hu => by simp at hu⟩

/-- What take answers where there is enough. -/
def Took (w : World) (p : Nat) (F : Nat → Prop) (zs : List Int) (n : Nat) (e : Ending) (w' : World) : Prop := ∃ a c J, e = .returned (.slice a n c) ∧ RAt w p F (zs.drop n, 0) w' ∧ Lies J w' (.slice a n c) ((zs.take n).map (Value.int .u8))

theorem Reo.took {w : World} {p : Nat} {F J : Nat → Prop} {a b : Option Addr} {c d n : Nat} {zs : List Int} (h : Reo w p F J a c zs 0) (hn : n ≤ zs.length) (hl : Lies J w (.slice b (zs.length - n) d) ((zs.drop n).map (Value.int .u8))) (hd : zs.length - n ≤ d ∧ d ≤ c) :
    Took w p F zs n (.returned (.slice a n c)) (w.setCell ⟨p, 0, none⟩ (.slice b (zs.length - n) d)) := by
  have hC : Chg (fun k => k = p) w (w.setCell ⟨p, 0, none⟩ (.slice b (zs.length - n) d)) := (Chg.refl _ w).setCell _ _ (.inl rfl)
  have hJ : ∀ k, J k → ¬ k = p := fun k hk e => h.jp (e ▸ hk)
  have e1 : (zs.drop n).length = zs.length - n := by simp
  have h1 := lies_front h.lies (n := n) (by simpa using hn)
  rw [← List.map_take] at h1
  refine ⟨a, c, J, rfl, ⟨⟨J, b, d, ?_, ?_, ?_, h.byt.drop n, h.jp, h.jf, h.fp, fun k hk => by simpa using h.lt k hk⟩, hC⟩, h1.chg hC hJ⟩
  · have := row_set (xs := [_, _]) h.blk 0 (.slice b (zs.length - n) d)
    simpa [e1] using this
  · simp only [e1]
    exact hl.chg hC hJ
  · have := h.cap
    simp only [e1]
    omega

set_option maxHeartbeats 1000000 in
theorem take_ok {w : World} {p : Nat} {F : Nat → Prop} {zs : List Int} (h : Rea w p F zs 0) (n : Nat) (hn : n ≤ zs.length) :
    Calls Try.prog 44 #[.pointer (some ⟨p, 0, none⟩), .int .i64 n, .bool true] w (Took w p F zs n) := by
  obtain ⟨J, a, c, h⟩ := h
  obtain ⟨c0, c1, c2, c3⟩ := h.cells
  obtain ⟨hc1, hc2⟩ := h.cap
  have i1 : (n : Int) ≤ zs.length := by omega
  have i2 : (zs.length : Int) ≤ c := by omega
  have i3 : (c : Int) ≤ 9223372036854775807 := by omega
  have i4 : (n : Int) ≤ c := by omega
  have H1 : Hid (n = c → Took w p F zs n (.returned (.slice a n n)) (w.setCell ⟨p, 0, none⟩ (.slice a (zs.length - n) 0))) := by
    intro e
    subst e
    exact h.took hn (by rw [List.map_drop]; exact lies_none h.lies (by simp; omega) (by omega)) (by omega)
  have H2 : Hid (Took w p F zs n (.returned (.slice a n c)) (w.setCell ⟨p, 0, none⟩ (.slice (a.map (fun x => x.add n)) (zs.length - n) (c - n)))) := by
    exact h.took hn (by rw [List.map_drop]; exact lies_back h.lies (by simpa using hn)) (by omega)
  clear h
  go_enter Try.func44, Try.ntmps44
  go_wp2
  all_goals go_ret
  all_goals first | exact H2.out | exact H1.out rfl | exact H1.out (by omega)

end Go.Proofs.Ytlcbfdbnjohicaa.st
