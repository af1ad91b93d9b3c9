/- Contracts of Clone, of the sort of items by their ids, of byID. -/
import Derived.Test.YtkaohjlnlgennaaFls
import Derived.Test.YtkaohjlnlgennaaSls
namespace Go.Proofs.Ytkaohjlnlgennaa.st
open Go.ChangeShapes Go.WideShapes Go.ChangeAt Go.RowKit Go.Proofs.Ytkaohjlnlgennaa.hp Go.Proofs.Ytkaohjlnlgennaa.tm Go.Proofs.Ytkaohjlnlgennaa.ev
set_option linter.unusedVariables false
set_option linter.unusedSimpArgs false

abbrev nv (a b : Int) : Value := .agg #[.int .i64 a, .int .i64 b]
theorem info35 : (Try.prog.info? 35).map (fun i => (i.zero, i.size, i.bytes)) = some (some (nv 0 0), 2, 16) := by kernel_rfl

theorem isNaN_any (w : World) (a : Int) : Calls Try.prog 58 #[.int .i64 a] w fun e w' => e = .returned (.bool false) ∧ w' = w := by
  have h : (a != a) = false := by simp
  go_enter Try.func58, Try.ntmps58
  go_wp2
  go_ret
  exact ⟨rfl, rfl⟩

def cmpI (a b : Int) : Int := if a < b then -1 else if b < a then 1 else 0

theorem compare_any (w : World) (a b : Int) : Calls Try.prog 50 #[.int .i64 a, .int .i64 b] w fun e w' => e = .returned (.int .i64 (cmpI a b)) ∧ w' = w := by
  unfold cmpI
  have hc : a < b ∨ (b ≤ a ∧ b < a) ∨ (b ≤ a ∧ a ≤ b) := by omega
  have HA := isNaN_any w a
  have HB := isNaN_any w b
  rcases hc with h1 | ⟨h1, h2⟩ | ⟨h1, h2⟩
  · rw [if_pos h1]
    go_enter Try.func50, Try.ntmps50
    go_wp2_with fail
    refine HA.mono ?_
    rintro e w1 ⟨rfl, rfl⟩
    go_wp2_with fail
    refine HB.mono ?_
    rintro e w1 ⟨rfl, rfl⟩
    go_wp2
    go_ret
    exact ⟨rfl, rfl⟩
  · rw [if_neg (by omega), if_pos h2]
    go_enter Try.func50, Try.ntmps50
    go_wp2_with fail
    refine HA.mono ?_
    rintro e w1 ⟨rfl, rfl⟩
    go_wp2_with fail
    refine HB.mono ?_
    rintro e w1 ⟨rfl, rfl⟩
    go_wp2
    go_ret
    exact ⟨rfl, rfl⟩
  · rw [if_neg (by omega), if_neg (by omega)]
    go_enter Try.func50, Try.ntmps50
    go_wp2_with fail
    refine HA.mono ?_
    rintro e w1 ⟨rfl, rfl⟩
    go_wp2_with fail
    refine HB.mono ?_
    rintro e w1 ⟨rfl, rfl⟩
    go_wp2
    go_ret
    exact ⟨rfl, rfl⟩

/-- By their ids. -/
def cmpF (x y : Int × Int) : Int := cmpI x.1 y.1

theorem closure_any (x y : Int × Int) (W : World) : Calls Try.prog 49 #[.agg #[.int .i64 x.1, .int .i64 x.2], .agg #[.int .i64 y.1, .int .i64 y.2]] W fun e w' => e = .returned (.int .i64 (cmpF x y)) ∧ ∃ q os', w' = Sort.grow (W.drewN q) os' := by
  have hcon := fun W' => compare_any W' x.1 y.1
  show Calls Try.prog 49 _ W fun e w' => e = .returned (.int .i64 (cmpI x.1 y.1)) ∧ _
  obtain ⟨r, hr⟩ : ∃ r, cmpI x.1 y.1 = r := ⟨_, rfl⟩
  simp only [hr] at hcon ⊢
  clear hr
  go_enter Try.func49, Try.ntmps49
  go_wp2_with (go_at_call 50; refine (hcon _).mono ?_; rintro e w' ⟨rfl, rfl⟩)
  go_ret
  exact ⟨rfl, 0, _, by rw [Sort.alloc_eq_grow, Sort.alloc_eq_grow, Sort.grow_grow]; rfl⟩

theorem cmpLays (blk off size : Nat) (w : World) : CmpLays Try.prog 49 #[] f2 2 cmpF blk off size w :=
  fun _ _ _ _ x y => closure_any x y _

theorem ltF (x y : Int × Int) : ltOf cmpF x y = decide (x.1 < y.1) := by
  unfold ltOf cmpF cmpI
  by_cases h1 : x.1 < y.1
  · simp [h1]
  · by_cases h2 : y.1 < x.1 <;> simp [h1, h2]

theorem swoF : Sort.SWO (ltOf cmpF) where
  irrefl x := by rw [ltF]; simp
  trans x y z h1 h2 := by rw [ltF] at *; simp at *; omega
  ntrans x y z h1 h2 := by rw [ltF] at *; simp at *; omega

theorem bang_get {α : Type} [Inhabited α] (d : Array α) (i : Nat) (h : i < d.size) : d.toList[i]? = some d[i]! := by
  rw [getElem!_pos d i h]
  simp [h]

theorem list_bang {xs : List Value} {i : Nat} {u : Value} (h : xs[i]? = some u) : xs[i]! = u := by
  obtain ⟨hi, e⟩ := List.getElem?_eq_some_iff.1 h
  rw [getElem!_pos xs i hi, e]

/-- The row of cells as the kit's word has it. -/
theorem flat_bang (d : Array (Int × Int)) (t : Nat) (ht : t < d.size * 2) : (d.toList.flatMap f2)[t]? = some (Sort.flatK f2 2 d)[t]! := by
  have hq : t / 2 < d.size := by omega
  have hg := flat_get len2 d.toList (t / 2) (t % 2) (by omega) _ (bang_get d (t / 2) hq)
  have he : t / 2 * 2 + t % 2 = t := by omega
  rw [he] at hg
  rw [Sort.get_flatK f2 2 d t ht, hg]
  have : t % 2 < (f2 d[t / 2]!).length := by rw [len2]; omega
  rw [List.getElem?_eq_getElem this, getElem!_pos (f2 d[t / 2]!) (t % 2) this]

theorem holds_of {w : World} {base g n cap : Nat} {e : TypeId} {its : List (Int × Int)} (h : w.ownsRow base e 2 (.slice (some ⟨g, 0, none⟩) n cap) n (its.flatMap f2)) (hn : its.length = n) : Sort.HoldsK f2 2 w g 0 its.toArray := by
  intro j hj
  rw [Sort.size_flatK] at hj
  simp only [List.size_toArray] at hj
  have hb := flat_bang its.toArray j (by simpa using hj)
  rw [Nat.zero_add]
  refine ⟨?_, h.frozenAt j⟩
  rw [h.cellAt j (by omega)]
  exact hb

/-- What the sort leaves: the row, sorted; all else as it was, but for new blocks. -/
theorem sorted_row {w : World} {base g n cap m : Nat} {e : TypeId} {its : List (Int × Int)} {d : Array (Int × Int)} {os : Array Obj} (h : w.ownsRow base e 2 (.slice (some ⟨g, 0, none⟩) n cap) n (its.flatMap f2)) (hn : its.length = n) (hd : d.size = n) :
    (sortWorldK f2 2 w g 0 m d os).ownsRow base e 2 (.slice (some ⟨g, 0, none⟩) n cap) n (d.toList.flatMap f2) ∧ Chg (fun k => k = g) w (sortWorldK f2 2 w g 0 m d os) := by
  have hlen : (d.toList.flatMap f2).length = n * 2 := by rw [flat_length len2]; simp [hd]
  have hsz : (Sort.putRow id (Sort.ahead w m) g 0 (Sort.flatK f2 2 d)).heap.size = w.heap.size := by simp [Sort.putRow, Sort.mapBlock, Sort.ahead]
  constructor
  · refine ⟨by rw [hlen], ?_⟩
    rcases h.2 with ⟨hv, _⟩ | ⟨g', cap', cur, hv, hb, hg, h1, h2, h3, h4⟩
    · cases hv
    · simp only [Value.slice.injEq, Option.some.injEq, Addr.mk.injEq, and_true, true_and] at hv
      obtain ⟨rfl, rfl⟩ := hv
      have hlt : g < w.heap.size := lt_of_block hg
      refine .inr ⟨g, cap, Sort.putCells id 0 (Sort.flatK f2 2 d) cur, rfl, hb, ?_, h1, h2, by simp [Sort.putCells, h3], ?_⟩
      · show ((Sort.putRow id (Sort.ahead w m) g 0 (Sort.flatK f2 2 d)).heap ++ os)[g]? = _
        rw [Array.getElem?_append_left (by rw [hsz]; exact hlt)]
        simp [Sort.putRow, Sort.mapBlock, Sort.ahead, Array.getElem?_modify, hg, Sort.onCells]
      · apply List.ext_getElem?
        intro i
        by_cases hi : i < n * 2
        · rw [List.getElem?_take_of_lt hi, flat_bang d i (by rw [hd]; exact hi)]
          have hic : i < cur.size := by rw [h3]; have := Nat.mul_le_mul_right 2 h1; omega
          simp [Sort.putCells, hic, hd, hi]
        · rw [List.getElem?_eq_none (by simp; omega), List.getElem?_eq_none (by omega)]
  · refine ⟨rfl, rfl, rfl, ?_, fun k hk hn => ?_⟩
    · show _ ≤ ((Sort.putRow id (Sort.ahead w m) g 0 (Sort.flatK f2 2 d)).heap ++ os).size
      rw [Array.size_append, hsz]
      omega
    · show ((Sort.putRow id (Sort.ahead w m) g 0 (Sort.flatK f2 2 d)).heap ++ os)[k]? = _
      rw [Array.getElem?_append_left (by rw [hsz]; exact hk)]
      simp [Sort.putRow, Sort.mapBlock, Sort.ahead, Array.getElem?_modify, Ne.symm hn]

end Go.Proofs.Ytkaohjlnlgennaa.st
