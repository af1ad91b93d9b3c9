/- Contract of first, what the chapter's examples fix. -/
import Derived.Test.YtocbmjkbbbmncaaRse
namespace Go.Proofs.Ytocbmjkbbbmncaa.st
open Go.ChangeShapes Go.WideShapes Go.ChangeAt Go.RowKit Go.Proofs.Ytocbmjkbbbmncaa.hp
set_option linter.unusedVariables false

theorem lie_block {w : World} {g n c : Nat} {xs : List Value} {t : TypeId} (h : w.heap[g]? = some (.cells xs.toArray t (0, 0))) : Lie (fun k => k = g) w (.slice (some ⟨g, 0, none⟩) n c) n xs :=
  .inr ⟨_, _, rfl, fun _ => rfl, fun i u hu => by rw [Addr.add_lit, Nat.zero_add]; exact (row_cell h i u hu).1⟩

/-- Where the i-th change of a row of the call's own lies. -/
theorem cell3 {e : TypeId} {w w1 : World} {cs : List (Int × Int × Int)} {v : Value} (h : NewR e 3 f3 w cs v w1) {i : Nat} {d l t : Int} (hi : cs[i]? = some (d, l, t)) :
    ∃ g c, v = .slice (some ⟨g, 0, none⟩) cs.length c ∧ w.heap.size ≤ g ∧ w1.cell? ⟨g, i * 3, none⟩ = some (.int .i64 d) ∧ w1.cell? ⟨g, i * 3 + 1, none⟩ = some (.int .i64 l) ∧ w1.cell? ⟨g, i * 3 + 2, none⟩ = some (.int .i64 t) := by
  have hl : i < cs.length := (List.getElem?_eq_some_iff.1 hi).1
  have hr := h.1
  rcases hr.2 with ⟨_, hn⟩ | ⟨g, cap, cur, hv, hb, _⟩
  · omega
  · rw [hv] at hr
    refine ⟨g, cap, hv, hb, ?_, ?_, ?_⟩
    · rw [hr.cellAt _ (by omega)]
      exact flat_get len3 cs i 0 (by omega) _ hi
    · rw [hr.cellAt _ (by omega)]
      exact flat_get len3 cs i 1 (by omega) _ hi
    · rw [hr.cellAt _ (by omega)]
      exact flat_get len3 cs i 2 (by omega) _ hi

theorem new_chg {w a b : World} {p : Nat} {pv cv : Value} (k : Chg no w a) (h : Chg (Ft p pv cv) a b) (hn : ∀ k, Ft p pv cv k → w.heap.size ≤ k) : Chg no w b := k.trans h (fun x hx => .inr (hn x hx))

set_option maxHeartbeats 2000000 in
theorem first_any (w : World) : Calls Try.prog 7 #[] w fun e w' => e = .returned (.bool true) ∧ Chg no w w' := by
  have K0 : Chg no w (w.alloc (.cells #[.int .i64 0, .int .i64 0, .int .i64 3, .int .i64 0] 33)) := (Chg.refl no w).alloc _
  have HN := new_any (w.alloc (.cells #[.int .i64 0, .int .i64 0, .int .i64 3, .int .i64 0] 33)) (.slice (some ⟨w.heap.size, 0, none⟩) 2 2) [(0, 0), (3, 0)] (lie_block (xs := [.int .i64 0, .int .i64 0, .int .i64 3, .int .i64 0]) (heap_alloc_new _ _)) (by simp)
  have s0 := K0.size
  have HK0 : Hid _ := K0
  clear K0
  go_enter Try.func7, Try.ntmps7
  go_wp2_with fail
  refine HN.mono ?_
  rintro e w1 ⟨r, rfl, p, pv, cv, rfl, M1, k1, hf⟩
  have K1 := HK0.out.then k1
  have hn : ∀ k, Ft p pv cv k → w.heap.size ≤ k := fun k hk => by have := hf k hk; omega
  have H2 := set_any M1 1 2 5
  have m2 : may ([(0, 0), (3, 0)] : List (Int × Int)).length 1 2 5 = true := by decide
  rw [m2] at H2
  clear HN k1 hf M1 HK0 s0
  go_wp2_with fail
  refine H2.mono ?_
  rintro e w2 ⟨rfl, M2, k2⟩
  have e2 : setP [(0, 0), (3, 0)] 1 2 5 = [(0, 0), (2, 5)] := by decide
  have e3 : setC ([(0, 0), (3, 0)] : List (Int × Int)).length (List.replicate ([(0, 0), (3, 0)] : List (Int × Int)).length false) 1 2 5 = [false, true] := by decide
  rw [e2, e3] at M2
  have K2 := new_chg K1 k2 hn
  have H3 := set_any M2 2 0 0
  have m3 : may ([(0, 0), (2, 5)] : List (Int × Int)).length 2 0 0 = false := by decide
  rw [m3] at H3
  clear H2 m2 e2 e3 M2 k2 K1
  go_wp2_with fail
  refine H3.mono ?_
  rintro e w3 ⟨rfl, M3, k3⟩
  have e2 : setP [(0, 0), (2, 5)] 2 0 0 = [(0, 0), (2, 5)] := by decide
  have e3 : setC ([(0, 0), (2, 5)] : List (Int × Int)).length [false, true] 2 0 0 = [false, true] := by decide
  rw [e2, e3] at M3
  have K3 := new_chg K2 k3 hn
  have H4 := changes_any M3 (by simp)
  clear H3 m3 e2 e3 k3 K2
  go_wp2_with fail
  refine H4.mono ?_
  rintro e w4 ⟨v4, rfl, N4⟩
  have e4 : told [(0, 0), (2, 5)] [false, true] ([(0, 0), (2, 5)] : List (Int × Int)).length = [(1, 2, 5)] := by decide
  rw [e4] at N4
  obtain ⟨g, c, rfl, _, q0, q1, q2⟩ := cell3 N4 (i := 0) rfl
  have H5 := len_any (M3.same N4.2)
  have K4 := K3.then N4.2
  simp only [List.length_cons, List.length_nil, Nat.reduceAdd, Nat.zero_mul, Nat.zero_add] at H5 q0 q1 q2 ⊢
  clear H4 e4 N4 M3 K3
  go_wp2_with fail
  refine H5.mono ?_
  rintro e w5 ⟨rfl, rfl⟩
  go_wp2
  go_ret
  exact ⟨rfl, K4⟩

end Go.Proofs.Ytocbmjkbbbmncaa.st
