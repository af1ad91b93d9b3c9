/- marks: the law's row of cells that are some area's. -/
import Derived.Test.YtfhpdcimdeilpaaDj
namespace Go.Proofs.Ytfhpdcimdeilpaa.st
open Go.ChangeShapes Go.WideShapes Go.ChangeAt Go.RowKit Go.Proofs.Ytfhpdcimdeilpaa.hp
set_option linter.unusedVariables false
set_option linter.unusedSimpArgs false

/-- A row of T marks. -/
def mk (T : Nat) (P : Nat → Bool) : List Bool := (List.range T).map P

/-- C more cells from F on. -/
def add (P : Nat → Bool) (F C : Nat) : Nat → Bool := fun k => P k || (decide (F ≤ k) && decide (k < F + C))

theorem mk_len (T : Nat) (P : Nat → Bool) : (mk T P).length = T := by simp [mk]
theorem mk_at (T : Nat) (P : Nat → Bool) (k : Nat) (hk : k < T) : (mk T P)[k]? = some (P k) := by
  unfold mk
  rw [List.getElem?_map, List.getElem?_range hk]
  rfl

theorem mk_ext {T : Nat} {P Q : Nat → Bool} (h : ∀ k, k < T → P k = Q k) : mk T P = mk T Q := by
  unfold mk
  exact List.map_congr_left fun k hk => h k (List.mem_range.1 hk)

theorem add_zero (P : Nat → Bool) (F : Nat) : add P F 0 = P := by
  funext k
  unfold add
  by_cases h : F ≤ k
  · have : decide (k < F + 0) = false := decide_eq_false (by omega)
    rw [this, Bool.and_false, Bool.or_false]
  · have : decide (F ≤ k) = false := decide_eq_false h
    rw [this, Bool.false_and, Bool.or_false]

theorem mk_set (T : Nat) (P : Nat → Bool) (F i : Nat) (h : F + i < T) : (mk T (add P F i)).set (F + i) true = mk T (add P F (i + 1)) := by
  apply List.ext_getElem?
  intro k
  rw [List.getElem?_set]
  by_cases hk : k < T
  · rw [mk_at T _ k hk, mk_at T _ k hk]
    by_cases e : F + i = k
    · subst e
      rw [if_pos rfl, if_pos (by rw [mk_len]; exact h)]
      have a : decide (F ≤ F + i) = true := decide_eq_true (by omega)
      have b : decide (F + i < F + (i + 1)) = true := decide_eq_true (by omega)
      unfold add
      rw [a, b, Bool.and_true, Bool.or_true]
    · rw [if_neg e]
      unfold add
      have : decide (k < F + (i + 1)) = decide (k < F + i) := by
        by_cases h2 : k < F + i
        · rw [decide_eq_true h2, decide_eq_true (by omega)]
        · rw [decide_eq_false h2, decide_eq_false (by omega)]
      rw [this]
  · rw [List.getElem?_eq_none (by rw [mk_len]; omega), List.getElem?_eq_none (by rw [mk_len]; omega), if_neg (by omega)]

/-- The row in memory. -/
def Mks (base g T : Nat) (P : Nat → Bool) (w : World) : Prop := w.ownsRow base 4 1 (.slice (some ⟨g, 0, none⟩) T T) T ((mk T P).map Value.bool)

theorem Mks.chg {base g T : Nat} {P : Nat → Bool} {w w' : World} {F : Nat → Prop} (M : Mks base g T P w) (k : Chg F w w') (h : ¬ F g) : Mks base g T P w' := k.owns M (fun j hj => by cases hj; exact h)

theorem Mks.at {base g T : Nat} {P : Nat → Bool} {w : World} (M : Mks base g T P w) (k : Nat) (hk : k < T) : w.cell? ⟨g, k, none⟩ = some (.bool (P k)) ∧ w.frozen? ⟨g, k, none⟩ = false := by
  refine ⟨?_, World.ownsRow.frozenAt M k⟩
  rw [World.ownsRow.cellAt M k (by omega), List.getElem?_map, mk_at T P k hk]
  rfl

theorem Mks.set {base g T : Nat} {P : Nat → Bool} {w : World} {F i : Nat} (M : Mks base g T (add P F i) w) (h : F + i < T) : Mks base g T (add P F (i + 1)) (w.setCell ⟨g, F + i, none⟩ (.bool true)) := by
  have := (World.ownsRow.stored M (F + i) (.bool true)).1
  unfold Mks
  rw [← mk_set T P F i h, List.map_set]
  exact this

theorem Mks.lt {base g T : Nat} {P : Nat → Bool} {w : World} (M : Mks base g T P w) : g < w.heap.size := (World.ownsRow.lt M g rfl).2

set_option maxRecDepth 100000 in
set_option maxHeartbeats 4000000 in
theorem marks_any (w : World) (base g T : Nat) (P : Nat → Bool) (F C : Nat) (hT : T ≤ 65536) (h1 : 1 ≤ C) (h2 : 2 ≤ F) (h3 : F + C ≤ T) (hf : ∀ k, F ≤ k → k < F + C → P k = false) (M : Mks base g T P w) :
    Calls Try.prog 48 #[.slice (some ⟨g, 0, none⟩) T T, areaV ((F : Int), (C : Int))] w fun e w' => e = .returned (.bool true) ∧ Mks base g T (add P F C) w' ∧ Chg (fun k => k = g) w w' := by
  have hg := M.lt
  have HM : Hid (Mks base g T P w) := M
  have HFr : Hid (∀ k, F ≤ k → k < F + C → P k = false) := hf
  have a1 : ¬ (C : Int) < 1 := by omega
  have a2 : ¬ (F : Int) < 2 := by omega
  have a3 : ¬ (T : Int) < C := by omega
  have a4 : ¬ (T : Int) - (C : Int) < F := by omega
  have a5 : (T : Int) ≤ 65536 := by omega
  have a6 : (C : Int) ≤ 65536 := by omega
  have a7 : (F : Int) ≤ 65536 := by omega
  clear M hf
  go_enter Try.func48, Try.ntmps48
  go_wp2_with fail
  obtain ⟨w1, hw1⟩ : ∃ w1, w.alloc (.cells #[.int .i64 (F : Int), .int .i64 (C : Int)] 39) = w1 := ⟨_, rfl⟩
  have hb : w1.heap[w.heap.size]? = some (.cells #[.int .i64 (F : Int), .int .i64 (C : Int)] 39 (0, 0)) := by rw [← hw1]; exact heap_alloc_new w _
  have K1 : Hid (Chg no w w1) := by rw [← hw1]; exact (Chg.refl no w).alloc _
  rw [hw1]
  obtain ⟨p, hp⟩ : ∃ p, w.heap.size = p := ⟨_, rfl⟩
  rw [hp] at hb ⊢
  have hne : p ≠ g := by omega
  have HB : Hid (∀ W, Chg (fun k => k = g) w1 W → W.heap[p]? = some (.cells #[.int .i64 (F : Int), .int .i64 (C : Int)] 39 (0, 0))) := fun W k => k.heap hb hne
  have HM1 : Hid (Mks base g T (add P F 0) w1) := by show Mks _ _ _ _ _; rw [add_zero]; exact HM.out.chg K1.out id
  clear hw1 hp hb hg
  go_loopw [5] (fun iv wq => ∃ i : Nat, i ≤ C ∧ iv = .int .i64 (i : Int) ∧ Mks base g T (add P F i) wq ∧ Chg (fun k => k = g) w1 wq) (fun iv _ => C - (intOf iv).toNat)
  case atStart => exact ⟨0, by omega, rfl, HM1.out, Chg.refl _ _⟩
  case round =>
    obtain ⟨i, hi, rfl, hM, hC⟩ := hrel
    have HMi : Hid (Mks base g T (add P F i) wr) := hM
    have HC : Hid (Chg (fun k => k = g) w1 wr) := hC
    have hbx := HB.out wr hC
    obtain ⟨c0, _⟩ := row_cell (xs := [_, _]) hbx 0 _ rfl
    obtain ⟨c1, _⟩ := row_cell (xs := [_, _]) hbx 1 _ rfl
    clear hM hC hbx
    by_cases hiC : i < C
    · have hii : (i : Int) < C := by omega
      obtain ⟨k, hk⟩ : ∃ k, F + i = k := ⟨_, rfl⟩
      have hki : (F : Int) + (i : Int) = (k : Int) := by omega
      have hkT : (k : Int) < T := by omega
      obtain ⟨o1, o2⟩ := HMi.out.at k (by omega)
      have e : add P F i k = false := by
        unfold add
        rw [HFr.out k (by omega) (by omega), decide_eq_false (p := k < F + i) (by omega), Bool.and_false, Bool.or_false]
      rw [e] at o1
      have HK : Hid (F + i = k) := hk
      clear e hk
      go_wp2
      go_roundw
      case rel => exact ⟨i + 1, by omega, by go_num, by have := HMi.out.set (F := F) (i := i) (by have := HK.out; omega); rw [HK.out] at this; exact this, HC.out.setCell _ _ (.inl rfl)⟩
      case measure => simp [intOf]; omega
    · obtain rfl : i = C := by omega
      have hii : ¬ (i : Int) < i := by omega
      go_wp2
      go_ret
      exact ⟨rfl, HMi.out, (K1.out.of_no _).then HC.out⟩

end Go.Proofs.Ytfhpdcimdeilpaa.st
