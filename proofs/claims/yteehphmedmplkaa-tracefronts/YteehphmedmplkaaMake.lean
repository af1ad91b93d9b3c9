/- Contracts of copyOf, Peek, New and of the comparison of bytes. -/
import Derived.Test.YteehphmedmplkaaSto
namespace Go.Proofs.Yteehphmedmplkaa.st
open Go.ChangeShapes Go.WideShapes Go.ChangeAt Go.RowKit Go.Proofs.Yteehphmedmplkaa.hp Go.Proofs.Yteehphmedmplkaa.md
set_option linter.unusedVariables false

theorem splice_all (zs : List Value) (n : Nat) (z : Value) (h : zs.length = n) : splice ((madeCells #[z] n).toList) 0 zs = zs := by
  rw [toList_madeCells_one]
  simp [splice, h]

theorem splice_nil (n : Nat) (z : Value) : splice ((madeCells #[z] n).toList) 0 [] = List.replicate n z := by
  rw [toList_madeCells_one]
  simp [splice]

set_option maxHeartbeats 1000000 in
theorem copyOf_any {w : World} {p : Nat} {F : Nat → Prop} {m : Mod} (h : St w p F m) (i : Nat) (hi : i < m.V.length) :
    Calls Try.prog 52 #[.pointer (some ⟨p, 0, none⟩), .int .i64 i] w fun e w' => e = .returned (.slice (some ⟨w.heap.size, 0, none⟩) m.sz m.sz) ∧
      w'.heap[w.heap.size]? = some (.cells ((m.now.getD i dC).2.map (Value.int .u8)).toArray 5 (0, 0)) ∧ Chg no w w' := by
  obtain ⟨gc, I, vf, vk, h⟩ := h
  obtain ⟨i0, hi0, hz0, hz1, hz2⟩ := info_parts info5
  have hcs : (Try.prog.info? 5).map (·.size) = some 1 := by kernel_rfl
  obtain ⟨c0, c1, c2, c3, c4, c5, c6⟩ := h.cells
  have hn := h.num
  have hiI : (i : Int) < m.V.length := by omega
  have hVb : m.V.length ≤ 65536 := hn.2.2.2.1
  obtain ⟨d1, d2⟩ := h.now_cell i hi
  have hB := h.now_byt i hi
  obtain ⟨C, hC⟩ : ∃ C, m.now.getD i dC = C := ⟨_, rfl⟩
  rw [hC] at d1 hB ⊢
  obtain ⟨hlen, hB⟩ := hB
  have hpl : p < w.heap.size := h.lt _ h.fp
  have hgl : gc < w.heap.size := h.lt _ h.fgc
  obtain ⟨sz, hsz⟩ : ∃ sz, m.sz = sz := ⟨_, rfl⟩
  rw [hsz] at c0 hlen hB hn ⊢
  clear h hC hi
  obtain ⟨CS, hCS⟩ : ∃ CS : List Value, CS.length ≤ sz ∧ splice ((madeCells #[Value.int .u8 0] sz).toList) 0 CS = C.2.map (Value.int .u8) ∧ (∀ u ∈ CS, u.oneCell' = true) ∧
      ∃ a c, C.1 = .slice a CS.length c ∧ (0 < CS.length → ∃ x, a = some x ∧ ∀ (j : Nat) (u : Value), CS[j]? = some u → w.cell? (x.add j) = some u) := by
    rcases hB with ⟨h1, h2⟩ | ⟨h1, h2⟩ | ⟨x, c, h1, h2, h3⟩
    · refine ⟨[], by simp, ?_, by simp, _, _, h1, by simp⟩
      rw [splice_nil, h2]; simp
    · have : C.2 = [] := by simpa using h2
      refine ⟨[], by simp, ?_, by simp, _, _, h1, by simp⟩
      rw [splice_nil, h2]
      rw [this] at hlen
      simp at hlen
      rw [← hlen]; rfl
    · exact ⟨C.2.map (Value.int .u8), by simp [hlen], splice_all _ _ _ (by simp [hlen]), ints_oneCell _ _, _, _, h1, fun _ => ⟨x, rfl, h3⟩⟩
  obtain ⟨hC1, hC2, hC3, a, c, hC4, hC5⟩ := hCS
  rw [hC4] at d1
  have HS : Hid (splice ((madeCells #[Value.int .u8 0] sz).toList) 0 CS = C.2.map (Value.int .u8)) := hC2
  have HP : Hid (0 < CS.length → ∃ x, a = some x ∧ ∀ (j : Nat) (u : Value), CS[j]? = some u → w.cell? (x.add j) = some u) := hC5
  clear hC2 hC5 hB hC4
  go_enter Try.func52, Try.ntmps52
  go_wp2_with (at_make; refine wpList_make_full _ rfl _ _ 31 rfl w.heap.size 5 i0 (.int .u8 0) 1 Try.underlying31 hi0 hz0 hz1 .i64 .i64 sz sz sz rfl rfl rfl rfl ?c1 ?c2 ?c3 ?_)
  case c1 => rw [hz2]; omega
  case c2 => unfold maxLen; omega
  case c3 => omega
  intro w1 hown hg
  have k1 : Chg no w w1 := (Chg.refl no w).grown hg (by simp)
  have e1 := k1.cell c1 id
  have e2 := k1.cell d1 id
  have G : Hid (w1.heap[w.heap.size]? = some (.cells ((madeCells #[Value.int .u8 0] sz).toList).toArray 5 (0, 0))) := by
    exact (row_whole hown).1
  have HP1 : Hid (0 < CS.length → some (⟨w.heap.size, 0, none⟩ : Addr) = some ⟨w.heap.size, 0, none⟩ ∧ ∃ ad, a = some ad ∧ ∀ (j : Nat) (u : Value), CS[j]? = some u → w1.cell? (ad.add j) = some u) := by
    intro h0
    obtain ⟨x, hx, hc⟩ := HP.out h0
    exact ⟨rfl, x, hx, fun j u hu => k1.cell (hc j u hu) id⟩
  clear hown
  go_wp2_with (refine wpList_copy_splice rfl (.tmp 11) (.tmp 18) 31 31 rfl 5 Try.underlying31 hcs _ _ _ _ _ _ rfl rfl w.heap.size 0 (madeCells #[Value.int .u8 0] sz).toList 5 G.out CS (by simp only [Nat.min_def]; split <;> omega) HP1.out (by simp [toList_madeCells_one]; omega) hC3 w.heap.size _ (Below.refl _ _) (Nat.le_refl _) ?_; intro w3 G3 B3)
  go_ret
  have G4 := G3.out
  rw [HS.out] at G4
  exact ⟨rfl, G4, k1.blocked B3 (Nat.le_refl _)⟩

theorem peek_in {w : World} {p : Nat} {F : Nat → Prop} {m : Mod} (h : St w p F m) (i : Nat) (hi : i < m.V.length) :
    Calls Try.prog 29 #[.pointer (some ⟨p, 0, none⟩), .int .i64 i] w fun e w' => e = .returned (.slice (some ⟨w.heap.size, 0, none⟩) m.sz m.sz) ∧
      w'.heap[w.heap.size]? = some (.cells ((m.now.getD i dC).2.map (Value.int .u8)).toArray 5 (0, 0)) ∧ Chg no w w' := by
  have hh : decide (0 ≤ (i : Int) ∧ (i : Int) < m.V.length) = true := by simp; omega
  have H := has_any h i
  rw [hh] at H
  go_enter Try.func29, Try.ntmps29
  go_wp2_with fail
  refine H.mono ?_
  rintro e w1 ⟨rfl, rfl⟩
  go_wp2_with fail
  refine (copyOf_any h i hi).mono ?_
  rintro e w1 ⟨rfl, g1, k1⟩
  go_wp2
  go_ret
  exact ⟨rfl, g1, k1⟩

theorem peek_out {w : World} {p : Nat} {F : Nat → Prop} {m : Mod} (h : St w p F m) (a : Int) (hi : ¬ (0 ≤ a ∧ a < m.V.length)) :
    Calls Try.prog 29 #[.pointer (some ⟨p, 0, none⟩), .int .i64 a] w fun e w' => e = .returned (.slice none 0 0) ∧ w' = w := by
  have hh : decide (0 ≤ a ∧ a < m.V.length) = false := by simp only [decide_eq_false_iff_not]; exact hi
  have H := has_any h a
  rw [hh] at H
  clear hi hh
  go_enter Try.func29, Try.ntmps29
  go_wp2_with fail
  refine H.mono ?_
  rintro e w1 ⟨rfl, rfl⟩
  go_wp2
  go_ret
  exact ⟨rfl, rfl⟩

theorem conv_arg {J : Nat → Prop} {w : World} {v : Value} {zs : List Int} (h : Lies J w v (zs.map (Value.int .u8))) :
    (convert 31 9 v).run Try.prog w = .ok (.string (strOfNums zs)) w := by
  rcases h with ⟨rfl, h0⟩ | ⟨x, cap, rfl, hx, hc⟩
  · obtain rfl : zs = [] := by simpa using h0
    rw [run_convert_bytes_nil w 31 5 Try.underlying31 Try.underlying5 0 0 9 Try.underlying9]
    rfl
  · have hl : (loadCells x zs.length).run Try.prog w = .ok (zs.map (Value.int .u8)).toArray w := by
      have := run_loadCells_list (P := Try.prog) w x (zs.map (Value.int .u8)) hc
      simpa using this
    simp only [List.length_map]
    rw [run_convert_bytes_string w 31 9 5 _ zs.length cap Try.underlying31 Try.underlying5 Try.underlying9, run_bytesToString w _ zs.length cap zs hl, foldl_push_bytes]
    simp [strOfNums, ByteArray.empty, ByteArray.emptyWithCapacity]
    rfl

theorem bytes_same {J K : Nat → Prop} {w : World} {a b : Option Addr} {len cap len' cap' : Nat} {zs : List Int} (h : Lies J w (.slice a len cap) (zs.map (Value.int .u8))) (h' : Lies K w (.slice b len' cap') (zs.map (Value.int .u8))) :
    Calls Try.prog 14 #[.slice a len cap, .slice b len' cap'] w fun e w' => e = .returned (.bool true) ∧ w' = w := by
  have e1 := conv_arg h
  have e2 := conv_arg h'
  clear h h'
  go_enter Try.func14, Try.ntmps14
  go_wp2
  go_ret
  exact ⟨rfl, rfl⟩

theorem lies_block {w : World} {g : Nat} {zs : List Value} {t : TypeId} (h : w.heap[g]? = some (.cells zs.toArray t (0, 0))) (c : Nat) : Lies (fun k => k = g) w (.slice (some ⟨g, 0, none⟩) zs.length c) zs :=
  .inr ⟨_, _, rfl, fun _ => rfl, fun i u hu => by rw [Addr.add_lit, Nat.zero_add]; exact (row_cell h i u hu).1⟩

/-- A new store. -/
def Mod.new (n sz : Nat) : Mod := ⟨sz, List.replicate n (.slice none 0 0, List.replicate sz 0), [], true, 0, 0, []⟩

theorem sto_new {w w1 : World} {n sz : Nat} (h1 : 1 ≤ n) (h2 : n ≤ 65536) (h3 : 1 ≤ sz) (h4 : sz ≤ 4096) (hown : w1.ownsRow w.heap.size 31 1 (.slice (some ⟨w.heap.size, 0, none⟩) n n) n (madeCells #[.slice none 0 0] n).toList) (hg : w.grownBy w1 none) :
    St (w1.alloc (.cells #[.int .i64 sz, .slice (some ⟨w.heap.size, 0, none⟩) n n, .slice none 0 0, .bool true, .int .i64 0, .int .i64 0, .slice none 0 0] 83)) w1.heap.size (fun k => w.heap.size ≤ k ∧ k < w1.heap.size + 1) (Mod.new n sz) := by
  have hr := (row_whole hown).1
  have hlt := lt_of_block hr
  refine ⟨w.heap.size, no, .slice none 0 0, .slice none 0 0, ?_, ?_, ?_, .inl ⟨rfl, rfl⟩, ?_, ?_, ?_, ?_, by omega, ?_, id, id, ⟨hg.size, by omega⟩, ⟨Nat.le_refl _, by omega⟩, fun _ h => h.elim, fun k hk => by simp; omega⟩
  · simpa [Mod.new] using heap_alloc_new w1 _
  · rw [Below.heap_alloc _ _ _ hlt, hr]
    simp [Mod.now, Mod.new, redo, toList_madeCells_one]
  · exact World.ownsRow_nil _ _ _ _
  · intro c hc
    simp [Mod.new] at hc
    obtain ⟨_, rfl⟩ := hc
    exact ⟨by simp [Mod.new], .inl ⟨rfl, rfl⟩⟩
  · intro x hx; simp [Mod.new] at hx
  · intro x hx; simp [Mod.new] at hx
  · simp [Mod.new]; omega
  · intro k hk; simp [Value.ownBlock] at hk

theorem new_in {w : World} (n sz : Nat) (h1 : 1 ≤ n) (h2 : n ≤ 65536) (h3 : 1 ≤ sz) (h4 : sz ≤ 4096) :
    Calls Try.prog 41 #[.int .i64 n, .int .i64 sz] w fun e w' => ∃ p, e = .returned (.tuple #[.pointer (some ⟨p, 0, none⟩), .int .i64 0]) ∧ St w' p (fun k => w.heap.size ≤ k ∧ k < w'.heap.size) (Mod.new n sz) ∧ Chg no w w' := by
  obtain ⟨i0, hi0, hz0, hz1, hz2⟩ := info_parts info32
  have a1 : (1 : Int) ≤ n := by omega
  have a2 : (n : Int) ≤ 65536 := by omega
  have a3 : (1 : Int) ≤ sz := by omega
  have a4 : (sz : Int) ≤ 4096 := by omega
  go_enter Try.func41, Try.ntmps41
  go_wp2_with (at_make; refine wpList_make_full _ rfl _ _ 49 rfl w.heap.size 31 i0 (.slice none 0 0) 1 Try.underlying49 hi0 hz0 hz1 .i64 .i64 n n n rfl rfl rfl rfl ?c1 ?c2 ?c3 ?_)
  case c1 => rw [hz2]; omega
  case c2 => unfold maxLen; omega
  case c3 => omega
  intro w1 hown hg
  go_wp2
  go_ret2
  have := sto_new h1 h2 h3 h4 hown hg
  exact ⟨_, rfl, by simpa using this, ((Chg.refl no w).grown hg (by simp)).alloc _⟩

theorem new_out {w : World} (n sz : Int) (h : n < 1 ∨ 65536 < n ∨ sz < 1 ∨ 4096 < sz) :
    Calls Try.prog 41 #[.int .i64 n, .int .i64 sz] w fun e w' => e = .returned (.tuple #[.pointer none, .int .i64 1]) ∧ w' = w := by
  have hc : (n < 1) ∨ (1 ≤ n ∧ 65536 < n) ∨ (1 ≤ n ∧ n ≤ 65536 ∧ sz < 1) ∨ (1 ≤ n ∧ n ≤ 65536 ∧ 1 ≤ sz ∧ 4096 < sz) := by omega
  clear h
  rcases hc with h1 | ⟨h1, h2⟩ | ⟨h1, h2, h3⟩ | ⟨h1, h2, h3, h4⟩
  all_goals
    go_enter Try.func41, Try.ntmps41
    go_wp2
    go_ret2
    exact ⟨rfl, rfl⟩

end Go.Proofs.Yteehphmedmplkaa.st
