/- What the chapter's example fixes: the laws' first. -/
import Derived.Test.YtkaohjlnlgennaaLws
import Derived.Test.YtkaohjlnlgennaaFar
namespace Go.Proofs.Ytkaohjlnlgennaa.st
open Go.ChangeShapes Go.WideShapes Go.ChangeAt Go.RowKit Go.Proofs.Ytkaohjlnlgennaa.hp Go.Proofs.Ytkaohjlnlgennaa.tm Go.Proofs.Ytkaohjlnlgennaa.ev
set_option linter.unusedVariables false
set_option linter.unusedSimpArgs false

theorem first_plan : planA 1 1 [0] [(3, 0), (5, 1)] = ([(0, [5]), (1, [3])], []) := by decide +kernel

theorem abs_two {xs : List FV} {b c : Int} {S T : List Int} (h : abs xs = [(b, S), (c, T)]) : ∃ x y, xs = [x, y] ∧ x.b = b ∧ x.d = S ∧ y.b = c ∧ y.d = T := by
  have hl : xs.length = 2 := by rw [← abs_len, h]; rfl
  match xs, hl with
  | [x, y], _ =>
    unfold abs FV.fl at h
    simp only [List.map_cons, List.map_nil, List.cons.injEq, Prod.mk.injEq, and_true] at h
    exact ⟨x, y, rfl, h.1.1, h.1.2, h.2.1, h.2.2⟩

set_option maxRecDepth 100000 in
set_option maxHeartbeats 4000000 in
theorem first_any (w : World) : Calls Try.prog 8 #[] w fun e w' => e = .returned (.bool true) ∧ Chg no w w' := by
  have HPL : Hid (Calls Try.prog 10 #[.int .i64 1, .int .i64 1, .slice (some ⟨w.heap.size, 0, none⟩) 1 1, .slice (some ⟨w.heap.size + 1, 0, none⟩) 2 2] ((w.alloc (.cells #[.int .i64 0] 3)).alloc (.cells #[.int .i64 3, .int .i64 0, .int .i64 5, .int .i64 1] 35)) fun e w' => ∃ fv lv xs, e = .returned (.tuple #[fv, lv]) ∧ Fls w' fv xs ∧ abs xs = [(0, [5]), (1, [3])] ∧ Lies (Old w') w' lv [] ∧ Chg no w w') := by
    have h1 : Lies (fun _ => True) ((w.alloc (.cells #[.int .i64 0] 3)).alloc (.cells #[.int .i64 3, .int .i64 0, .int .i64 5, .int .i64 1] 35)) (.slice (some ⟨w.heap.size, 0, none⟩) 1 1) (([0] : List Int).map (Value.int .i64)) := by
      refine .inr ⟨_, 1, rfl, fun _ => trivial, fun j u hu => ?_⟩
      exact ((Chg.refl no (w.alloc (.cells #[.int .i64 0] 3))).alloc _).cell (news_at (w := w) (xs := [.int .i64 0]) (t := 3) j u hu) (fun h => h)
    have h2 : Lie (fun _ => True) ((w.alloc (.cells #[.int .i64 0] 3)).alloc (.cells #[.int .i64 3, .int .i64 0, .int .i64 5, .int .i64 1] 35)) (.slice (some ⟨w.heap.size + 1, 0, none⟩) 2 2) ([(3, 0), (5, 1)] : List (Int × Int)).length (([(3, 0), (5, 1)] : List (Int × Int)).flatMap f2) := by
      refine .inr ⟨_, 2, rfl, fun _ => trivial, fun j u hu => ?_⟩
      have := news_at (w := w.alloc (.cells #[.int .i64 0] 3)) (xs := [.int .i64 3, .int .i64 0, .int .i64 5, .int .i64 1]) (t := 35) j u hu
      simp only [World.size_alloc] at this
      exact this
    refine (plan_any _ 1 1 _ _ [0] [(3, 0), (5, 1)] h1 h2 (by simp) (by simp)).mono ?_
    rintro e w' ⟨fv, lv, xs, rfl, a1, a2, a3, a4⟩
    rw [first_plan] at a2 a3
    exact ⟨fv, lv, xs, rfl, a1, a2, a3, (((Chg.refl no w).alloc _).alloc _).then a4⟩
  go_enter Try.func8, Try.ntmps8
  go_wp2_with fail
  refine HPL.out.mono ?_
  rintro e w1 ⟨fv, lv, xs, rfl, F1, A1, L1, k1⟩
  obtain ⟨x, y, rfl, hxb, hxd, hyb, hyd⟩ := abs_two A1
  obtain ⟨af, cf, rfl⟩ := F1.slice
  obtain ⟨al, cl, rfl, _⟩ := L1.slice
  obtain ⟨p, a0, c0, rfl, x0, x1, _, xl, _⟩ := F1.at 0 (by simp)
  obtain ⟨p', a1, c1, e', y0, y1, _, yl, _⟩ := F1.at 1 (by simp)
  cases e'
  simp only [List.getD_cons_zero, List.getD_cons_succ, hxb, hxd, hyb, hyd, List.length_cons, List.length_nil, Nat.zero_mul, Nat.one_mul, Nat.zero_add, Nat.reduceAdd] at x0 x1 xl y0 y1 yl
  have HK1 : Hid (Chg no w w1) := k1
  have HF1 : Hid (Fls w1 (.slice (some p) 2 cf) [x, y]) := F1
  have HA1 : Hid (abs [x, y] = [(0, [5]), (1, [3])]) := A1
  have HX : Hid (∀ W, Chg no w1 W → Lies (Old W) W (.slice a0 1 c0) ([5].map (Value.int .i64))) := fun W k => Lies.later xl k
  have HY : Hid (∀ W, Chg no w1 W → Lies (Old W) W (.slice a1 1 c1) ([3].map (Value.int .i64))) := fun W k => Lies.later yl k
  have HC : Hid (∀ W, Chg no w1 W → W.cell? p = some (.int .i64 0) ∧ W.cell? ⟨p.block, p.off + 1, none⟩ = some (.slice a0 1 c0) ∧ W.cell? ⟨p.block, p.off + 2, none⟩ = some (.int .i64 1) ∧ W.cell? ⟨p.block, p.off + 3, none⟩ = some (.slice a1 1 c1)) := fun W k => by
    have e0 : p.add 0 = p := by simp [Addr.add]
    have e2 : p.add 2 = ⟨p.block, p.off + 2, none⟩ := by simp [Addr.add]
    rw [e0] at x0 x1
    rw [e2] at y0 y1
    exact ⟨k.cell x0 (fun h => h), k.cell x1 (fun h => h), k.cell y0 (fun h => h), k.cell y1 (fun h => h)⟩
  obtain ⟨q0, q1, q2, q3⟩ := HC.out w1 (Chg.refl no w1)
  clear HPL F1 A1 L1 k1 x0 x1 xl y0 y1 yl hxb hxd hyb hyd
  go_wp2_with fail
  have k2 : Chg no w1 (w1.alloc (.cells #[.int .i64 5] 3)) := (Chg.refl no w1).alloc _
  refine (ints_same (J := Old (w1.alloc (.cells #[.int .i64 5] 3))) (K := fun _ => True) _ _ _ [5] (HX.out _ k2) (.inr ⟨_, 1, rfl, fun _ => trivial, fun j u hu => news_at (w := w1) (xs := [.int .i64 5]) (t := 3) j u hu⟩) (by simp)).mono ?_
  rintro e w2 ⟨rfl, n2, hn2⟩
  have k3 : Chg no w1 w2 := by rw [hn2]; exact k2.drewN n2
  obtain ⟨r0, r1, r2, r3⟩ := HC.out w2 k3
  clear hn2 k2 q0 q1 q2 q3
  go_wp2_with fail
  have k4 : Chg no w1 (w2.alloc (.cells #[.int .i64 3] 3)) := k3.alloc _
  refine (ints_same (J := Old (w2.alloc (.cells #[.int .i64 3] 3))) (K := fun _ => True) _ _ _ [3] (HY.out _ k4) (.inr ⟨_, 1, rfl, fun _ => trivial, fun j u hu => news_at (w := w2) (xs := [.int .i64 3]) (t := 3) j u hu⟩) (by simp)).mono ?_
  rintro e w3 ⟨rfl, n3, hn3⟩
  have k5 : Chg no w1 w3 := by rw [hn3]; exact k4.drewN n3
  clear hn3 k4 r0 r1 r2 r3
  have HH := held_any w3 (.slice (some p) 2 cf) [x, y] (HF1.out.later k5) (by simp) (by rw [HA1.out]; decide)
  rw [HA1.out] at HH
  have HK5 : Hid (Chg no w w3) := HK1.out.then k5
  have eh : (held [(0, [5]), (1, [3])] : Int) = 2 := by decide
  rw [eh] at HH
  clear k5 k3
  go_wp2_with fail
  refine HH.mono ?_
  rintro e w4 ⟨rfl, c4⟩
  go_wp2
  go_ret
  exact ⟨rfl, HK5.out.then c4⟩

end Go.Proofs.Ytkaohjlnlgennaa.st
