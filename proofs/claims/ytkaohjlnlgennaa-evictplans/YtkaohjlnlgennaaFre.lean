/- Rows in new memory that grow by appends within regions that draw. No word of the program. -/
import Derived.Test.YtkaohjlnlgennaaRw2
namespace Go.Proofs.Ytkaohjlnlgennaa.hp
open Go.RowKit
set_option linter.unusedVariables false
set_option linter.unusedSimpArgs false

/-- A row of n elements in memory that is new since w; nothing old was written. -/
def Fresh (e : TypeId) (S : Nat) (w W : World) (v : Value) (n : Nat) (XS : List Value) : Prop := W.ownsRow w.heap.size e S v n XS ∧ Chg no w W

theorem Fresh.same {e : TypeId} {S : Nat} {w W W2 : World} {v : Value} {n : Nat} {XS : List Value} (h : Fresh e S w W v n XS) (k : Chg no W W2) : Fresh e S w W2 v n XS := ⟨k.owns h.1 (fun _ _ h => h), h.2.then k⟩

theorem Fresh.made (e : TypeId) (S : Nat) {w W W2 : World} (k : Chg no w W) (k2 : Chg no (W.alloc (.cells #[] e)) W2) : Fresh e S w W2 (.slice (some ⟨W.heap.size, 0, none⟩) 0 0) 0 [] :=
  Fresh.same ⟨World.ownsRow_made W #[] 0 k.size (by unfold maxLen; omega) (by simp), k.alloc _⟩ k2

/-- append of whatever a slice shows, nil or not, to a row in new memory, as one step of a region that draws. -/
theorem step_fresh {P : Program} {ops : Array Oper} {o : Oper} {a : Act} {w0 w : World} {K : Act → World → Prop} {Q : Exit → Act → World → Prop} {E : Prop} (hg : o.guard = none) (s x : Operand) (t : TypeId)
    (ho : o.op = .call { callee := .builtin .append, args := #[s, x], argTypes := #[t, t] })
    (e : TypeId) (i : TypeInfo) (z : Value) (size bytes : Nat) (ht : P.underlying t = some (.slice e)) (hi : P.info? e = some i) (hz : i.zero = some z)
    (hsize : i.size = size) (hby : i.bytes = bytes) (hzs : z.cells.size = size) (hsz : 0 < size)
    (v : Value) (n : Nat) (XS : List Value) (hs : a.eval s = v) (hown : Fresh e size w0 w v n XS)
    (J : Nat → Prop) (u : Value) (m : Nat) (news : List Value) (hx : a.eval x = u) (hu : Lie J w u m news) (hl : news.length = m * size) (h1 : ∀ u ∈ news, u.oneCell' = true)
    (N : Nat) (hN : n + m = N) (h63 : N ≤ maxLen) (hbytes : N * bytes ≤ 140737488355328)
    (h : ∀ b c w', Hid (Fresh e size w0 w' (.slice b N c) N (XS ++ news)) → Hid (Chg (fun k => v.ownBlock = some k) w w') → K (a.put o.dst (.slice b N c)) w') :
    if Region.wanted o (yielded ops a.tmps) = true then Oper.wp P o a w K Q else E := by
  subst hN
  rcases hu with ⟨rfl, rfl, rfl⟩ | ⟨ad, c, rfl, hJ, hc⟩
  · obtain ⟨b, c, rfl⟩ := owns_shape hown.1
    have hw : Region.wanted o (yielded ops a.tmps) = true := by simp [Region.wanted, hg]
    rw [if_pos hw]
    have hrun := run_append_owned_none (P := P) (w := w) w0.heap.size t o.type e i size ht hi _ n XS hown.1
    unfold Oper.wp
    simp [execOp, ho, resolve, invoke, builtin, hs, hx, hrun, Result.andThen]
    exact h b c w (show Fresh e size w0 w (.slice b (n + 0) c) (n + 0) (XS ++ []) by simpa using hown) (Chg.refl _ w)
  · refine step_append_at hg s x t ho e i z size bytes ht hi hz hsize hby hzs hsz v n XS hs (owns_base hown.1 (Nat.zero_le _)) ad m c news hx hl hc h1 h63 hbytes ?_
    intro v' w' r1 r2 r3
    obtain ⟨b, c', rfl⟩ := owns_shape r1
    refine h b c' w' ⟨?_, hown.2.grown r2 (fun k hk => .inr (hown.1.lt k hk).1)⟩ ((Chg.refl _ w).grown r2 (fun k hk => .inl hk))
    refine ⟨r1.1, ?_⟩
    rcases r1.2 with hh | ⟨g, cap, cur, e1, _, rest⟩
    · exact .inl hh
    · refine .inr ⟨g, cap, cur, e1, ?_, rest⟩
      rcases r3 g (by rw [e1]; rfl) with e2 | e2
      · exact (hown.1.lt g e2).1
      · have := hown.2.size
        omega

end Go.Proofs.Ytkaohjlnlgennaa.hp
