/- Contracts of the small functions: isWidth, allOnes, most, Cells, Clone, filled, Fill, Bytes. -/
import Derived.Test.YtlcbfdbnjohicaaRows
import Derived.Test.YtlcbfdbnjohicaaDig
import Derived.ProofKit
import Derived.OpenShut
import Derived.WalkLawsBesides
import Derived.WalkSpells
import Derived.Deep.QuietTactic
import Derived.BigQuiet
import Derived.RegionTactic
import Derived.BigRegion
import Derived.Deep.RegionWith
import Derived.ChangeAlike
import Derived.Handy
import Derived.Laws.BytesArg
import Derived.Laws.AppendOwnNone
import Derived.Deep.Cut
import Derived.Deep.CutRange
namespace Go.Proofs.Ytlcbfdbnjohicaa.st
open Go.ChangeShapes Go.WideShapes Go.ChangeAt Go.RowKit Go.Proofs.Ytlcbfdbnjohicaa.hp Go.Proofs.Ytlcbfdbnjohicaa.dg
set_option linter.unusedVariables false

theorem info5 : (Try.prog.info? 5).map (fun i => (i.zero, i.size, i.bytes)) = some (some (.int .u8 0), 1, 1) := by kernel_rfl
theorem info3 : (Try.prog.info? 3).map (fun i => (i.zero, i.size, i.bytes)) = some (some (.int .i64 0), 1, 8) := by kernel_rfl
theorem info26 : (Try.prog.info? 25).map (fun i => (i.zero, i.size, i.bytes)) = some (some (.slice none 0 0), 1, 24) := by kernel_rfl

theorem isWidth_any (w : World) (a : Int) : Calls Try.prog 34 #[.int .i64 a] w fun e w' => e = .returned (.bool (decide (1 ≤ a ∧ a ≤ 7))) ∧ w' = w := by
  have hc : a < 1 ∨ (1 ≤ a ∧ a ≤ 7) ∨ (1 ≤ a ∧ 7 < a) := by omega
  rcases hc with h1 | ⟨h1, h2⟩ | ⟨h1, h2⟩
  all_goals
    go_enter Try.func34, Try.ntmps34
    go_wp2
    go_ret
    refine ⟨ret_bool ?_, rfl⟩
    simp
    try omega

theorem allOnes_any (w : World) (k : Nat) (h1 : 1 ≤ k) (h2 : k ≤ 7) : Calls Try.prog 43 #[.int .i64 k] w fun e w' => e = .returned (.int .i64 (most k)) ∧ w' = w := by
  have i1 : (1 : Int) ≤ k := by omega
  have i2 : (k : Int) ≤ 7 := by omega
  go_enter Try.func43, Try.ntmps43
  go_wp2
  go_ret
  refine ⟨ret_int ?_, rfl⟩
  exact most_wrap k h2

theorem clone_any (v : Value) (zs : List Int) (J : Nat → Prop) (w : World) (h : Lies J w v (zs.map (Value.int .u8))) (hl : zs.length ≤ 100000000) :
    Calls Try.prog 38 #[v] w fun e w' => ∃ v', e = .returned v' ∧ w'.ownsRow w.heap.size 5 1 v' zs.length (zs.map (Value.int .u8)) ∧ Chg no w w' := by
  obtain ⟨i0, hi, hz0, hz1, hz2⟩ := info_parts info5
  have he := fun (w : World) (a : Option Addr) (l c : Nat) => Lib.run_eql_slice_nil (P := Try.prog) w 25 5 a l c 0 0 Try.underlying25
  rcases h with ⟨rfl, h0⟩ | ⟨x, cap, rfl, hx, hc⟩
  · obtain rfl : zs = [] := by simpa using h0
    go_enter Try.func38, Try.ntmps38
    go_wp2
    go_ret
    exact ⟨_, rfl, World.ownsRow_nil _ _ _ _, Chg.refl _ _⟩
  · go_enter Try.func38, Try.ntmps38
    go_wp2_with (at_builtin; refine wpList_append_own _ rfl _ _ 25 rfl w.heap.size 5 i0 (.int .u8 0) 1 1 Try.underlying25 hi hz0 hz1 hz2 rfl (by decide) _ 0 [] rfl ?c0 x _ cap (zs.map (Value.int .u8)) rfl ?c1 ?c2 ?c3 ?c4 ?c5 ?c6 ?_)
    case c0 => exact World.ownsRow_made w #[] 0 (Nat.le_refl _) (by unfold maxLen; omega) rfl
    case c1 => simp
    case c2 => exact fun j u hu => ((Chg.refl no w).alloc _).cell (hc j u hu) id
    case c3 => exact ints_oneCell _ _
    case c4 => simp; unfold maxLen; omega
    case c5 => simp; omega
    case c6 => simp
    intro v' w1 hown hg _
    go_wp2
    go_ret
    refine ⟨v', rfl, by simpa using hown, ((Chg.refl no w).alloc _).grown hg ?_⟩
    intro k hk
    simp [Value.ownBlock] at hk
    omega

/-- With zeros up to a length. -/
def fill (zs : List Int) (n : Nat) : List Int := zs ++ List.replicate (n - zs.length) 0

theorem fill_length (zs : List Int) (n : Nat) (h : zs.length ≤ n) : (fill zs n).length = n := by
  simp [fill]; omega

theorem splice_fill (zs : List Int) (n : Nat) (h : zs.length ≤ n) : splice ((madeCells #[Value.int .u8 0] n).toList) 0 (zs.map (Value.int .u8)) = (fill zs n).map (Value.int .u8) := by
  rw [toList_madeCells_one]
  simp [splice, fill]

set_option maxHeartbeats 1000000 in
theorem filled_any {J : Nat → Prop} (w : World) (v : Value) (zs : List Int) (n : Nat) (h : Lies J w v (zs.map (Value.int .u8))) (hl : zs.length ≤ n) (hn : n ≤ 100000000) :
    Calls Try.prog 36 #[v, .int .i64 n] w fun e w' => e = .returned (.slice (some ⟨w.heap.size, 0, none⟩) n n) ∧
      w'.heap[w.heap.size]? = some (.cells ((fill zs n).map (Value.int .u8)).toArray 5 (0, 0)) ∧ Chg no w w' := by
  obtain ⟨i0, hi0, hz0, hz1, hz2⟩ := info_parts info5
  have hcs : (Try.prog.info? 5).map (·.size) = some 1 := by kernel_rfl
  obtain ⟨CS, hCS⟩ : ∃ CS : List Value, CS.length ≤ n ∧ splice ((madeCells #[Value.int .u8 0] n).toList) 0 CS = (fill zs n).map (Value.int .u8) ∧ (∀ u ∈ CS, u.oneCell' = true) ∧
      ∃ a c, v = .slice a CS.length c ∧ (0 < CS.length → ∃ x, a = some x ∧ ∀ (j : Nat) (u : Value), CS[j]? = some u → w.cell? (x.add j) = some u) := by
    rcases h with ⟨h1, h2⟩ | ⟨x, c, h1, h2, h3⟩
    · have : zs = [] := by simpa using h2
      subst this
      exact ⟨[], by simp, splice_fill [] n (by simp), by simp, _, _, h1, by simp⟩
    · exact ⟨zs.map (Value.int .u8), by simpa using hl, splice_fill zs n hl, ints_oneCell _ _, _, _, h1, fun _ => ⟨x, rfl, h3⟩⟩
  obtain ⟨hC1, hC2, hC3, a, c, hC4, hC5⟩ := hCS
  subst hC4
  have HS : Hid (splice ((madeCells #[Value.int .u8 0] n).toList) 0 CS = (fill zs n).map (Value.int .u8)) := hC2
  have HP : Hid (0 < CS.length → ∃ x, a = some x ∧ ∀ (j : Nat) (u : Value), CS[j]? = some u → w.cell? (x.add j) = some u) := hC5
  clear hC2 hC5 h
  go_enter Try.func36, Try.ntmps36
  go_wp2_with (at_make; refine wpList_make_full _ rfl _ _ 25 rfl w.heap.size 5 i0 (.int .u8 0) 1 Try.underlying25 hi0 hz0 hz1 .i64 .i64 n n n rfl rfl rfl rfl ?c1 ?c2 ?c3 ?_)
  case c1 => rw [hz2]; omega
  case c2 => unfold maxLen; omega
  case c3 => omega
  intro w1 hown hg
  have k1 : Chg no w w1 := (Chg.refl no w).grown hg (by simp)
  have G : Hid (w1.heap[w.heap.size]? = some (.cells ((madeCells #[Value.int .u8 0] n).toList).toArray 5 (0, 0))) := by
    exact (row_whole hown).1
  have HP1 : Hid (0 < CS.length → some (⟨w.heap.size, 0, none⟩ : Addr) = some ⟨w.heap.size, 0, none⟩ ∧ ∃ ad, a = some ad ∧ ∀ (j : Nat) (u : Value), CS[j]? = some u → w1.cell? (ad.add j) = some u) := by
    intro h0
    obtain ⟨x, hx, hc⟩ := HP.out h0
    exact ⟨rfl, x, hx, fun j u hu => k1.cell (hc j u hu) id⟩
  clear hown
  go_wp2_with (refine wpList_copy_splice rfl (.tmp 8) (.tmp 9) 25 25 rfl 5 Try.underlying25 hcs _ _ _ _ _ _ rfl rfl w.heap.size 0 (madeCells #[Value.int .u8 0] n).toList 5 G.out CS (by simp only [Nat.min_def]; split <;> omega) HP1.out (by simp [toList_madeCells_one]; omega) hC3 w.heap.size _ (Below.refl _ _) (Nat.le_refl _) ?_; intro w3 G3 B3)
  go_ret
  have G4 := G3.out
  rw [HS.out] at G4
  exact ⟨rfl, G4, k1.blocked B3 (Nat.le_refl _)⟩

set_option maxHeartbeats 1000000 in
theorem rfill_any {J : Nat → Prop} (w : World) (v : Value) (zs : List Int) (n : Nat) (h : Lies J w v (zs.map (Value.int .u8))) (hl : zs.length ≤ n) (hn : n ≤ 100000000) :
    Calls Try.prog 26 #[v, .int .i64 n] w fun e w' => e = .returned (.slice (some ⟨w.heap.size, 0, none⟩) n n) ∧
      w'.heap[w.heap.size]? = some (.cells ((fill zs n).map (Value.int .u8)).toArray 5 (0, 0)) ∧ Chg no w w' := by
  obtain ⟨i0, hi0, hz0, hz1, hz2⟩ := info_parts info5
  have hcs : (Try.prog.info? 5).map (·.size) = some 1 := by kernel_rfl
  obtain ⟨CS, hCS⟩ : ∃ CS : List Value, CS.length ≤ n ∧ splice ((madeCells #[Value.int .u8 0] n).toList) 0 CS = (fill zs n).map (Value.int .u8) ∧ (∀ u ∈ CS, u.oneCell' = true) ∧
      ∃ a c, v = .slice a CS.length c ∧ (0 < CS.length → ∃ x, a = some x ∧ ∀ (j : Nat) (u : Value), CS[j]? = some u → w.cell? (x.add j) = some u) := by
    rcases h with ⟨h1, h2⟩ | ⟨x, c, h1, h2, h3⟩
    · have : zs = [] := by simpa using h2
      subst this
      exact ⟨[], by simp, splice_fill [] n (by simp), by simp, _, _, h1, by simp⟩
    · exact ⟨zs.map (Value.int .u8), by simpa using hl, splice_fill zs n hl, ints_oneCell _ _, _, _, h1, fun _ => ⟨x, rfl, h3⟩⟩
  obtain ⟨hC1, hC2, hC3, a, c, hC4, hC5⟩ := hCS
  subst hC4
  have HS : Hid (splice ((madeCells #[Value.int .u8 0] n).toList) 0 CS = (fill zs n).map (Value.int .u8)) := hC2
  have HP : Hid (0 < CS.length → ∃ x, a = some x ∧ ∀ (j : Nat) (u : Value), CS[j]? = some u → w.cell? (x.add j) = some u) := hC5
  clear hC2 hC5 h
  go_enter Try.func26, Try.ntmps26
  go_wp2_with (at_make; refine wpList_make_full _ rfl _ _ 25 rfl w.heap.size 5 i0 (.int .u8 0) 1 Try.underlying25 hi0 hz0 hz1 .i64 .i64 n n n rfl rfl rfl rfl ?c1 ?c2 ?c3 ?_)
  case c1 => rw [hz2]; omega
  case c2 => unfold maxLen; omega
  case c3 => omega
  intro w1 hown hg
  have k1 : Chg no w w1 := (Chg.refl no w).grown hg (by simp)
  have G : Hid (w1.heap[w.heap.size]? = some (.cells ((madeCells #[Value.int .u8 0] n).toList).toArray 5 (0, 0))) := by
    exact (row_whole hown).1
  have HP1 : Hid (0 < CS.length → some (⟨w.heap.size, 0, none⟩ : Addr) = some ⟨w.heap.size, 0, none⟩ ∧ ∃ ad, a = some ad ∧ ∀ (j : Nat) (u : Value), CS[j]? = some u → w1.cell? (ad.add j) = some u) := by
    intro h0
    obtain ⟨x, hx, hc⟩ := HP.out h0
    exact ⟨rfl, x, hx, fun j u hu => k1.cell (hc j u hu) id⟩
  clear hown
  go_wp2_with (refine wpList_copy_splice rfl (.tmp 8) (.tmp 9) 25 25 rfl 5 Try.underlying25 hcs _ _ _ _ _ _ rfl rfl w.heap.size 0 (madeCells #[Value.int .u8 0] n).toList 5 G.out CS (by simp only [Nat.min_def]; split <;> omega) HP1.out (by simp [toList_madeCells_one]; omega) hC3 w.heap.size _ (Below.refl _ _) (Nat.le_refl _) ?_; intro w3 G3 B3)
  go_ret
  have G4 := G3.out
  rw [HS.out] at G4
  exact ⟨rfl, G4, k1.blocked B3 (Nat.le_refl _)⟩

theorem conv_arg {J : Nat → Prop} {w : World} {v : Value} {zs : List Int} (h : Lies J w v (zs.map (Value.int .u8))) :
    (convert 25 9 v).run Try.prog w = .ok (.string (strOfNums zs)) w := by
  rcases h with ⟨rfl, h0⟩ | ⟨x, cap, rfl, hx, hc⟩
  · obtain rfl : zs = [] := by simpa using h0
    rw [run_convert_bytes_nil w 25 5 Try.underlying25 Try.underlying5 0 0 9 Try.underlying9]
    rfl
  · have hl : (loadCells x zs.length).run Try.prog w = .ok (zs.map (Value.int .u8)).toArray w := by
      have := run_loadCells_list (P := Try.prog) w x (zs.map (Value.int .u8)) hc
      simpa using this
    simp only [List.length_map]
    rw [run_convert_bytes_string w 25 9 5 _ zs.length cap Try.underlying25 Try.underlying5 Try.underlying9, run_bytesToString w _ zs.length cap zs hl, foldl_push_bytes]
    simp [strOfNums, ByteArray.empty, ByteArray.emptyWithCapacity]
    rfl

theorem bytes_same {J K : Nat → Prop} {w : World} {a b : Option Addr} {len cap len' cap' : Nat} {zs : List Int} (h : Lies J w (.slice a len cap) (zs.map (Value.int .u8))) (h' : Lies K w (.slice b len' cap') (zs.map (Value.int .u8))) :
    Calls Try.prog 13 #[.slice a len cap, .slice b len' cap'] w fun e w' => e = .returned (.bool true) ∧ w' = w := by
  have e1 := conv_arg h
  have e2 := conv_arg h'
  clear h h'
  go_enter Try.func13, Try.ntmps13
  go_wp2
  go_ret
  exact ⟨rfl, rfl⟩

theorem lies_block {w : World} {g : Nat} {zs : List Value} {t : TypeId} (h : w.heap[g]? = some (.cells zs.toArray t (0, 0))) (c : Nat) : Lies (fun k => k = g) w (.slice (some ⟨g, 0, none⟩) zs.length c) zs :=
  .inr ⟨_, _, rfl, fun _ => rfl, fun i u hu => by rw [Addr.add_lit, Nat.zero_add]; exact (row_cell h i u hu).1⟩

theorem lies_new {w : World} (zs : List Value) (t : TypeId) : Lies (fun k => k = w.heap.size) (w.alloc (.cells zs.toArray t)) (.slice (some ⟨w.heap.size, 0, none⟩) zs.length zs.length) zs :=
  lies_block (heap_alloc_new w _) _

end Go.Proofs.Ytlcbfdbnjohicaa.st
