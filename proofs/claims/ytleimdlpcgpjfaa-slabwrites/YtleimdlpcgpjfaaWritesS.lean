/- A writer, and a row of bytes of the law's own beside it. -/
import Derived.Test.YtleimdlpcgpjfaaParts
namespace Go.Proofs.Ytleimdlpcgpjfaa.st
open Go.ChangeShapes Go.WideShapes Go.ChangeAt Go.RowKit Go.Proofs.Ytleimdlpcgpjfaa.hp Go.Proofs.Ytleimdlpcgpjfaa.dg
set_option linter.unusedVariables false

/-- The writer at p, and the row v, apart, in memory that is newer than w. -/
structure Bo (w : World) (p : Nat) (F G : Nat → Prop) (s : WS) (v : Value) (t : List Int) (wr : World) : Prop where
  wri : Wri wr p F s.1 s.2
  row : Row wr G v t
  apart : ∀ k, F k → ¬ G k
  fn : ∀ k, F k → w.heap.size ≤ k
  gn : ∀ k, G k → w.heap.size ≤ k
  chg : Chg no w wr

def Both (w : World) (p : Nat) (s : WS) (v : Value) (t : List Int) (wr : World) : Prop := ∃ F G, Bo w p F G s v t wr

theorem Bo.writer {w wr w' : World} {p : Nat} {F G : Nat → Prop} {s s' : WS} {v : Value} {t : List Int} (h : Bo w p F G s v t wr) (hW : WAt wr p F s' w') : Both w p s' v t w' := by
  have z := h.chg.size
  refine ⟨Wid F wr w', G, hW.1, h.row.chg hW.2 (fun k hk e => h.apart k e hk), ?_, ?_, h.gn, h.chg.trans hW.2 (fun k hk => .inr (h.fn k hk))⟩
  · intro k hk hg
    rcases hk with hk | hk
    · exact h.apart k hk hg
    · have := h.row.lt k hg
      omega
  · intro k hk
    rcases hk with hk | hk
    · exact h.fn k hk
    · omega

theorem Bo.rowed {w wr w' : World} {p : Nat} {F G : Nat → Prop} {s : WS} {v v' : Value} {t t' : List Int} (h : Bo w p F G s v t wr) (hR : Row w' (Wid G wr w') v' t') (hC : Chg G wr w') : Both w p s v' t' w' := by
  have z := h.chg.size
  refine ⟨F, Wid G wr w', h.wri.chg hC h.apart, hR, ?_, h.fn, ?_, h.chg.trans hC (fun k hk => .inr (h.gn k hk))⟩
  · intro k hk hg
    rcases hg with hg | hg
    · exact h.apart k hk hg
    · have := h.wri.lt k hk
      omega
  · intro k hk
    rcases hk with hk | hk
    · exact h.gn k hk
    · omega

theorem Bo.same {w wr w' : World} {p : Nat} {F G : Nat → Prop} {s : WS} {v : Value} {t : List Int} (h : Bo w p F G s v t wr) (k : Chg no wr w') : Bo w p F G s v t w' :=
  ⟨h.wri.same k, h.row.chg k (fun _ _ h => h), h.apart, h.fn, h.gn, h.chg.then k⟩

theorem Both.same {w wr w' : World} {p : Nat} {s : WS} {v : Value} {t : List Int} (h : Both w p s v t wr) (k : Chg no wr w') : Both w p s v t w' := by
  obtain ⟨F, G, h⟩ := h
  exact ⟨F, G, h.same k⟩

theorem Both.chg {w wr : World} {p : Nat} {s : WS} {v : Value} {t : List Int} (h : Both w p s v t wr) : Chg no w wr := by
  obtain ⟨F, G, h⟩ := h
  exact h.chg

theorem Both.shape {w wr : World} {p : Nat} {s : WS} {v : Value} {t : List Int} (h : Both w p s v t wr) : ∃ a c, v = .slice a t.length c := by
  obtain ⟨F, G, h⟩ := h
  exact owns_shape h.row.own

theorem Bo.old {w wr : World} {p : Nat} {F G : Nat → Prop} {s : WS} {v : Value} {t : List Int} (h : Bo w p F G s v t wr) : ∀ b, Old w b → ¬ F b ∧ b < wr.heap.size := by
  intro b hb
  have z := h.chg.size
  unfold Old at hb
  exact ⟨fun e => by have := h.fn b e; omega, by omega⟩

theorem Both.raw {w wr : World} {p : Nat} {s : WS} {v : Value} {t : List Int} (h : Both w p s v t wr) {a : Option Addr} {c : Nat} {zs : List Int} (hv : Lies (Old w) wr (.slice a zs.length c) (zs.map (Value.int .u8))) (hl : s.1.length ≤ 10000000) (hz : zs.length ≤ 100000) :
    Calls Try.prog 11 #[.pointer (some ⟨p, 0, none⟩), .slice (some ⟨wr.heap.size, 0, none⟩) 1 1] (wr.alloc (.cells #[.slice a zs.length c] 26)) fun e w' => e = .returned (.pointer (some ⟨p, 0, none⟩)) ∧ Both w p (raws s [zs]) v t w' := by
  obtain ⟨F, G, h⟩ := h
  refine (raw_new h.wri [(.slice a zs.length c, zs)] (fun x hx => by simp at hx; subst hx; exact hv) h.old (by simp) (by simp; omega)).mono ?_
  rintro e w' ⟨rfl, hW⟩
  exact ⟨rfl, h.writer hW⟩

theorem Both.num {w wr w1 : World} {p g : Nat} {s : WS} {v : Value} {t : List Int} (h : Both w p s v t wr) (k1 : Chg no wr w1) (a n : Int) (hg : w1.heap[g]? = some (.cells #[.int .i64 n] 3 (0, 0))) (hgn : wr.heap.size ≤ g) (hl : s.1.length ≤ 10000000) :
    Calls Try.prog 12 #[.pointer (some ⟨p, 0, none⟩), .int .i64 a, .slice (some ⟨g, 0, none⟩) 1 1] w1 fun e w' => e = .returned (.pointer (some ⟨p, 0, none⟩)) ∧ Both w p (nums a s [n]) v t w' := by
  obtain ⟨F, G, h⟩ := h
  refine (num_at h.wri (by omega) k1 a [n] (by simp) hg hgn).mono ?_
  rintro e w' ⟨rfl, hW⟩
  exact ⟨rfl, h.writer hW⟩

theorem Both.put {w wr : World} {p : Nat} {s : WS} {v : Value} {t : List Int} (h : Both w p s v t wr) (a n : Int) (hl : t.length ≤ 10000000) :
    Calls Try.prog 13 #[v, .int .i64 a, .int .i64 n] wr fun e w' => ∃ x c, e = .returned (.tuple #[.slice x (putS t a n).length c, .bool (okN a n)]) ∧ Both w p s (.slice x (putS t a n).length c) (putS t a n) w' ∧ Both w p s v t w' := by
  obtain ⟨F, G, h⟩ := h
  refine (put_any h.row (by omega) a n).mono ?_
  rintro e w' ⟨v', rfl, h1, h2, h3⟩
  obtain ⟨x, c, rfl⟩ := owns_shape h1.own
  exact ⟨x, c, rfl, h.rowed h1 h3, h.rowed h2 h3⟩

theorem Both.grew {w wr w5 : World} {p : Nat} {s : WS} {v v' : Value} {t cs : List Int} (h : Both w p s v t wr) (gr : Grew 5 wr w5 v v' t.length (t.map (Value.int .u8)) (cs.map (Value.int .u8))) : Both w p s v' (t ++ cs) w5 := by
  obtain ⟨F, G, h⟩ := h
  have hC : Chg G wr w5 := (Chg.refl _ wr).grown gr.grown (fun b hb => .inl (h.row.vg b hb))
  have z := hC.size
  refine h.rowed ⟨by simpa using gr.own, ?_, wid_lt h.row.lt z⟩ hC
  intro b hb
  have hlt := (gr.own.lt b hb).2
  rcases gr.place b hb with e | e
  · exact .inl (h.row.vg b e)
  · exact .inr ⟨e, hlt⟩

theorem Both.own {w wr : World} {p : Nat} {s : WS} {v : Value} {t : List Int} (h : Both w p s v t wr) : wr.ownsRow 0 5 1 v t.length (t.map (Value.int .u8)) := by
  obtain ⟨F, G, h⟩ := h
  exact h.row.own

theorem Both.wri {w wr : World} {p : Nat} {s : WS} {v : Value} {t : List Int} (h : Both w p s v t wr) : ∃ F, Wri wr p F s.1 s.2 := by
  obtain ⟨F, G, h⟩ := h
  exact ⟨F, h.wri⟩

theorem Both.new {w w2 : World} (k : Chg no w w2) : Both w w2.heap.size ([], false) (.slice none 0 0) [] (w2.alloc (.cells #[.slice none 0 0, .bool false] 28)) :=
  ⟨fun k => k = w2.heap.size, no, wri_new w2, ⟨World.ownsRow_nil _ _ _ _, fun k hk => by simp [Value.ownBlock] at hk, fun _ h => h.elim⟩, fun _ _ h => h, fun b hb => by have := k.size; omega, fun _ h => h.elim, k.alloc _⟩

/-- Num as the document tells it. -/
theorem nums_put (a n : Int) (s : WS) : nums a s [n] = if s.2 then s else (putS s.1 a n, !okN a n) := by
  have e : nums a s [n] = stp a (brk a s) n := rfl
  rw [e]
  obtain ⟨bs, br⟩ := s
  unfold stp brk putS
  cases br with
  | true => simp
  | false =>
    by_cases hw : 1 ≤ a ∧ a ≤ 7
    · rw [decide_eq_true hw]
      cases okN a n <;> simp
    · have ho : okN a n = false := by
        unfold okN
        apply decide_eq_false
        intro h
        exact hw ⟨h.1, h.2.1⟩
      rw [decide_eq_false hw, ho]
      simp

end Go.Proofs.Ytleimdlpcgpjfaa.st
