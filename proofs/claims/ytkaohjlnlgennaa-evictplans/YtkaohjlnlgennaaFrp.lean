/- A slice laid in a literal's row, outside of a region that draws. No word of the program. -/
import Derived.Test.YtkaohjlnlgennaaFre
namespace Go.Proofs.Ytkaohjlnlgennaa.hp
open Go.RowKit
set_option linter.unusedVariables false
set_option linter.unusedSimpArgs false

theorem wpList_fresh {P : Program} {w0 w : World} {ops : Array Oper} {rest : List Oper} {o : Oper} {a : Act} {Q : Exit → Act → World → Prop} (hgd : o.guard = none) (s x : Operand) (t : TypeId)
    (ho : o.op = .call { callee := .builtin .append, args := #[s, x], argTypes := #[t, t] })
    (e : TypeId) (i : TypeInfo) (z : Value) (size bytes : Nat) (ht : P.underlying t = some (.slice e)) (hi : P.info? e = some i) (hz : i.zero = some z)
    (hsize : i.size = size) (hby : i.bytes = bytes) (hzs : z.cells.size = size) (hsz : 0 < size)
    (v : Value) (n : Nat) (XS : List Value) (hs : a.eval s = v) (hown : Fresh e size w0 w v n XS)
    (J : Nat → Prop) (u : Value) (m : Nat) (news : List Value) (hx : a.eval x = u) (hu : Lie J w u m news) (hl : news.length = m * size) (h1 : ∀ u ∈ news, u.oneCell' = true)
    (N : Nat) (hN : n + m = N) (h63 : N ≤ maxLen) (hbytes : N * bytes ≤ 140737488355328)
    (h : ∀ b c w', Hid (Fresh e size w0 w' (.slice b N c) N (XS ++ news)) → wpList P ops Q rest (a.put o.dst (.slice b N c)) w') : wpList P ops Q (o :: rest) a w := by
  refine wpList_plain hgd fun K hK => ?_
  have := step_fresh (ops := ops) (E := False) (K := K) (Q := Q) (a := a) (w := w) hgd s x t ho e i z size bytes ht hi hz hsize hby hzs hsz v n XS hs hown J u m news hx hu hl h1 N hN h63 hbytes (fun b c w' r1 _ => hK _ _ (h b c w' r1))
  have hw : Region.wanted o (yielded ops a.tmps) = true := by simp [Region.wanted, hgd]
  rwa [if_pos hw] at this

end Go.Proofs.Ytkaohjlnlgennaa.hp
