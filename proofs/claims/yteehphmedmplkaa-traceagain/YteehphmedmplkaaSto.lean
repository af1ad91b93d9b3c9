/- The store in memory, and contracts of the small functions of package cells. -/
import Derived.Test.YteehphmedmplkaaRows
import Derived.Test.YteehphmedmplkaaMod
import Derived.ProofKit
import Derived.OpenShut
import Derived.WalkLawsBesides
import Derived.WalkSpells
import Derived.Deep.QuietTactic
import Derived.BigQuiet
import Derived.RegionTactic
import Derived.BigRegion
import Derived.Deep.RegionWith
import Derived.ChangeAlike
import Derived.Handy
import Derived.Laws.BytesArg
import Derived.Laws.AppendOwnNone
namespace Go.Proofs.Yteehphmedmplkaa.st
open Go.ChangeShapes Go.WideShapes Go.ChangeAt Go.RowKit Go.Proofs.Yteehphmedmplkaa.hp Go.Proofs.Yteehphmedmplkaa.md
set_option linter.unusedVariables false

theorem info5 : (Try.prog.info? 5).map (fun i => (i.zero, i.size, i.bytes)) = some (some (.int .u8 0), 1, 1) := by kernel_rfl
theorem info4 : (Try.prog.info? 4).map (fun i => (i.zero, i.size, i.bytes)) = some (some (.bool false), 1, 1) := by kernel_rfl
theorem info32 : (Try.prog.info? 31).map (fun i => (i.zero, i.size, i.bytes)) = some (some (.slice none 0 0), 1, 24) := by kernel_rfl
theorem info65 : (Try.prog.info? 90).map (fun i => (i.size, i.bytes)) = some (3, 56) := by kernel_rfl

/-- A cell's bytes: none were written, and they are 0; or its slice shows them. -/
def Byt (I : Nat → Prop) (w : World) (sz : Nat) (c : Cell) : Prop :=
  c.2.length = sz ∧ ((c.1 = .slice none 0 0 ∧ c.2 = List.replicate sz 0) ∨ Lies I w c.1 (c.2.map (Value.int .u8)))

theorem Byt.chg {F I : Nat → Prop} {w w' : World} {sz : Nat} {c : Cell} (h : Byt I w sz c) (k : Chg F w w') (hn : ∀ k, I k → ¬ F k) : Byt I w' sz c :=
  ⟨h.1, h.2.elim .inl fun h => .inr (h.chg k hn)⟩

theorem Byt.mono {I J : Nat → Prop} {w : World} {sz : Nat} {c : Cell} (h : Byt I w sz c) (hn : ∀ k, I k → J k) : Byt J w sz c :=
  ⟨h.1, h.2.elim .inl fun h => .inr (h.mono hn)⟩

/-- The store at block p: gc: the block of its cells, vf: the writes in flight, vk: what Arm keeps; I: the blocks that hold bytes, F: all its blocks. -/
structure Sto (w : World) (p gc : Nat) (F I : Nat → Prop) (m : Mod) (vf vk : Value) : Prop where
  blk : w.heap[p]? = some (.cells #[.int .i64 m.sz, .slice (some ⟨gc, 0, none⟩) m.V.length m.V.length, vf, .bool m.up, .int .i64 m.ops, .int .i64 m.arm, vk] 83 (0, 0))
  row : w.heap[gc]? = some (.cells (m.now.map (·.1)).toArray 31 (0, 0))
  fly : w.ownsRow 0 90 3 vf m.W.length (rows m.V m.W m.W.length)
  kep : Lies I w vk (m.kp.map Value.bool)
  bytV : ∀ c ∈ m.V, Byt I w m.sz c
  bytW : ∀ x ∈ m.W, Byt I w m.sz x.2
  adr : ∀ x ∈ m.W, x.1 < m.V.length
  num : 1 ≤ m.sz ∧ m.sz ≤ 4096 ∧ 1 ≤ m.V.length ∧ m.V.length ≤ 65536 ∧ m.W.length ≤ m.ops ∧ m.arm ≤ 9223372036854775807
  pgc : p ≠ gc
  fpg : ∀ k, vf.ownBlock = some k → k ≠ p ∧ k ≠ gc ∧ ¬ I k ∧ F k
  ip : ¬ I p
  igc : ¬ I gc
  fp : F p
  fgc : F gc
  fi : ∀ k, I k → F k
  lt : ∀ k, F k → k < w.heap.size

/-- The store at block p, in the blocks of F. -/
def St (w : World) (p : Nat) (F : Nat → Prop) (m : Mod) : Prop := ∃ gc I vf vk, Sto w p gc F I m vf vk

section
variable {w w' : World} {p gc : Nat} {F G I : Nat → Prop} {m : Mod} {vf vk : Value}

theorem Sto.chg (h : Sto w p gc F I m vf vk) (c : Chg G w w') (hn : ∀ k, F k → ¬ G k) : Sto w' p gc F I m vf vk :=
  ⟨c.heap h.blk (hn _ h.fp), c.heap h.row (hn _ h.fgc), c.owns h.fly (fun k hk => hn _ (h.fpg k hk).2.2.2), h.kep.chg c (fun k hk => hn _ (h.fi k hk)),
    fun x hx => (h.bytV x hx).chg c (fun k hk => hn _ (h.fi k hk)), fun x hx => (h.bytW x hx).chg c (fun k hk => hn _ (h.fi k hk)), h.adr, h.num, h.pgc, h.fpg, h.ip, h.igc, h.fp, h.fgc, h.fi, fun k hk => Nat.lt_of_lt_of_le (h.lt k hk) c.size⟩

theorem St.chg (h : St w p F m) (c : Chg G w w') (hn : ∀ k, F k → ¬ G k) : St w' p F m := by
  obtain ⟨gc, I, vf, vk, h⟩ := h
  exact ⟨gc, I, vf, vk, h.chg c hn⟩

theorem St.same (h : St w p F m) (c : Chg no w w') : St w' p F m := h.chg c fun _ _ h => h

theorem Sto.wide (h : Sto w p gc F I m vf vk) (hn : ∀ k, F k → G k) (hl : ∀ k, G k → k < w.heap.size) : Sto w p gc G I m vf vk :=
  ⟨h.blk, h.row, h.fly, h.kep, h.bytV, h.bytW, h.adr, h.num, h.pgc, fun k hk => ⟨(h.fpg k hk).1, (h.fpg k hk).2.1, (h.fpg k hk).2.2.1, hn _ (h.fpg k hk).2.2.2⟩, h.ip, h.igc, hn _ h.fp, hn _ h.fgc, fun k hk => hn _ (h.fi k hk), hl⟩

theorem St.wide (h : St w p F m) (hn : ∀ k, F k → G k) (hl : ∀ k, G k → k < w.heap.size) : St w p G m := by
  obtain ⟨gc, I, vf, vk, h⟩ := h
  exact ⟨gc, I, vf, vk, h.wide hn hl⟩

theorem St.lt (h : St w p F m) : ∀ k, F k → k < w.heap.size := by
  obtain ⟨gc, I, vf, vk, h⟩ := h
  exact h.lt

theorem St.fp (h : St w p F m) : F p := by
  obtain ⟨gc, I, vf, vk, h⟩ := h
  exact h.fp

theorem Sto.cells (h : Sto w p gc F I m vf vk) : w.cell? ⟨p, 0, none⟩ = some (.int .i64 m.sz) ∧ w.cell? ⟨p, 1, none⟩ = some (.slice (some ⟨gc, 0, none⟩) m.V.length m.V.length) ∧ w.cell? ⟨p, 2, none⟩ = some vf ∧
    w.cell? ⟨p, 3, none⟩ = some (.bool m.up) ∧ w.cell? ⟨p, 4, none⟩ = some (.int .i64 m.ops) ∧ w.cell? ⟨p, 5, none⟩ = some (.int .i64 m.arm) ∧ w.cell? ⟨p, 6, none⟩ = some vk := by
  simp [World.cell?, h.blk]

theorem Sto.free (h : Sto w p gc F I m vf vk) (j : Nat) : w.frozen? ⟨p, j, none⟩ = false := by
  simp [World.frozen?, h.blk]

theorem Sto.now_length (h : Sto w p gc F I m vf vk) : m.now.length = m.V.length := redo_length _ _ _ _

theorem Sto.now_byt (h : Sto w p gc F I m vf vk) (i : Nat) (hi : i < m.V.length) : Byt I w m.sz (m.now.getD i dC) := by
  have hl := h.now_length
  have hm : m.now.getD i dC ∈ m.now := by
    rw [List.getD_eq_getElem?_getD, List.getElem?_eq_getElem (by omega)]
    exact List.getElem_mem _
  rcases redo_mem _ _ _ _ (Nat.le_refl _) _ hm with hc | ⟨x, hx, he⟩
  · exact h.bytV _ hc
  · rw [← he]
    exact h.bytW x hx

theorem Sto.now_cell (h : Sto w p gc F I m vf vk) (i : Nat) (hi : i < m.V.length) : w.cell? ⟨gc, i, none⟩ = some (m.now.getD i dC).1 ∧ w.frozen? ⟨gc, i, none⟩ = false := by
  have hl := h.now_length
  refine row_cell h.row i _ ?_
  rw [List.getElem?_map, List.getD_eq_getElem?_getD, List.getElem?_eq_getElem (by omega)]
  rfl
end

theorem up_any {w : World} {p : Nat} {F : Nat → Prop} {m : Mod} (h : St w p F m) :
    Calls Try.prog 25 #[.pointer (some ⟨p, 0, none⟩)] w fun e w' => e = .returned (.bool m.up) ∧ w' = w := by
  obtain ⟨gc, I, vf, vk, h⟩ := h
  obtain ⟨c0, c1, c2, c3, c4, c5, c6⟩ := h.cells
  go_enter Try.func25, Try.ntmps25
  go_wp2
  go_ret
  exact ⟨rfl, rfl⟩

theorem ops_any {w : World} {p : Nat} {F : Nat → Prop} {m : Mod} (h : St w p F m) :
    Calls Try.prog 27 #[.pointer (some ⟨p, 0, none⟩)] w fun e w' => e = .returned (.int .i64 m.ops) ∧ w' = w := by
  obtain ⟨gc, I, vf, vk, h⟩ := h
  obtain ⟨c0, c1, c2, c3, c4, c5, c6⟩ := h.cells
  go_enter Try.func27, Try.ntmps27
  go_wp2
  go_ret
  exact ⟨rfl, rfl⟩

theorem has_any {w : World} {p : Nat} {F : Nat → Prop} {m : Mod} (h : St w p F m) (a : Int) :
    Calls Try.prog 51 #[.pointer (some ⟨p, 0, none⟩), .int .i64 a] w fun e w' => e = .returned (.bool (decide (0 ≤ a ∧ a < m.V.length))) ∧ w' = w := by
  obtain ⟨gc, I, vf, vk, h⟩ := h
  obtain ⟨c0, c1, c2, c3, c4, c5, c6⟩ := h.cells
  have hc : a < 0 ∨ (0 ≤ a ∧ a < m.V.length) ∨ (0 ≤ a ∧ (m.V.length : Int) ≤ a) := by omega
  rcases hc with h1 | ⟨h1, h2⟩ | ⟨h1, h2⟩
  all_goals
    go_enter Try.func51, Try.ntmps51
    go_wp2
    go_ret
    refine ⟨ret_bool ?_, rfl⟩
    simp
    try omega

theorem bytes_none {w : World} (o : Obj) : Lies no (w.alloc o) (.slice none 0 0) [] := .inl ⟨rfl, rfl⟩

theorem clone_any (v : Value) (zs : List Int) (J : Nat → Prop) (w : World) (h : Lies J w v (zs.map (Value.int .u8))) (hl : zs.length ≤ 100000) (hJ : ∀ k, J k → k < w.heap.size) :
    Calls Try.prog 59 #[v] w fun e w' => ∃ v', e = .returned v' ∧ w'.ownsRow w.heap.size 5 1 v' zs.length (zs.map (Value.int .u8)) ∧ Chg no w w' := by
  obtain ⟨i0, hi, hz0, hz1, hz2⟩ := info_parts info5
  have he := fun (w : World) (a : Option Addr) (l c : Nat) => Lib.run_eql_slice_nil (P := Try.prog) w 31 5 a l c 0 0 Try.underlying31
  rcases h with ⟨rfl, h0⟩ | ⟨x, cap, rfl, hx, hc⟩
  · obtain rfl : zs = [] := by simpa using h0
    go_enter Try.func59, Try.ntmps59
    go_wp2
    go_ret
    exact ⟨_, rfl, World.ownsRow_nil _ _ _ _, Chg.refl _ _⟩
  · go_enter Try.func59, Try.ntmps59
    go_wp2_with (at_builtin; refine wpList_append_own _ rfl _ _ 31 rfl w.heap.size 5 i0 (.int .u8 0) 1 1 Try.underlying31 hi hz0 hz1 hz2 rfl (by decide) _ 0 [] rfl ?c0 x _ cap (zs.map (Value.int .u8)) rfl ?c1 ?c2 ?c3 ?c4 ?c5 ?c6 ?_)
    case c0 => exact World.ownsRow_made w #[] 0 (Nat.le_refl _) (by unfold maxLen; omega) rfl
    case c1 => simp
    case c2 => exact fun j u hu => ((Chg.refl no w).alloc _).cell (hc j u hu) id
    case c3 => exact ints_oneCell _ _
    case c4 => simp; unfold maxLen; omega
    case c5 => simp; omega
    case c6 => simp
    intro v' w1 hown hg _
    go_wp2
    go_ret
    refine ⟨v', rfl, by simpa using hown, ((Chg.refl no w).alloc _).grown hg ?_⟩
    intro k hk
    simp [Value.ownBlock] at hk
    omega

theorem cloneb_any (v : Value) (bs : List Bool) (J : Nat → Prop) (w : World) (h : Lies J w v (bs.map Value.bool)) (hl : bs.length ≤ 100000000000) (hJ : ∀ k, J k → k < w.heap.size) :
    Calls Try.prog 49 #[v] w fun e w' => ∃ v', e = .returned v' ∧ w'.ownsRow w.heap.size 4 1 v' bs.length (bs.map Value.bool) ∧ Chg no w w' := by
  obtain ⟨i0, hi, hz0, hz1, hz2⟩ := info_parts info4
  have he := fun (w : World) (a : Option Addr) (l c : Nat) => Lib.run_eql_slice_nil (P := Try.prog) w 32 4 a l c 0 0 Try.underlying32
  rcases h with ⟨rfl, h0⟩ | ⟨x, cap, rfl, hx, hc⟩
  · obtain rfl : bs = [] := by simpa using h0
    go_enter Try.func49, Try.ntmps49
    go_wp2
    go_ret
    exact ⟨_, rfl, World.ownsRow_nil _ _ _ _, Chg.refl _ _⟩
  · go_enter Try.func49, Try.ntmps49
    go_wp2_with (at_builtin; refine wpList_append_own _ rfl _ _ 32 rfl w.heap.size 4 i0 (.bool false) 1 1 Try.underlying32 hi hz0 hz1 hz2 rfl (by decide) _ 0 [] rfl ?c0 x _ cap (bs.map Value.bool) rfl ?c1 ?c2 ?c3 ?c4 ?c5 ?c6 ?_)
    case c0 => exact World.ownsRow_made w #[] 0 (Nat.le_refl _) (by unfold maxLen; omega) rfl
    case c1 => simp
    case c2 => exact fun j u hu => ((Chg.refl no w).alloc _).cell (hc j u hu) id
    case c3 => intro u hu; obtain ⟨b, _, rfl⟩ := List.mem_map.1 hu; rfl
    case c4 => simp; unfold maxLen; omega
    case c5 => simp; omega
    case c6 => simp
    intro v' w1 hown hg _
    go_wp2
    go_ret
    refine ⟨v', rfl, by simpa using hown, ((Chg.refl no w).alloc _).grown hg ?_⟩
    intro k hk
    simp [Value.ownBlock] at hk
    omega

end Go.Proofs.Yteehphmedmplkaa.st
