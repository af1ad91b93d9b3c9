/- slices.Backward: its contract, and that of the function that it hands back: the row from its end on, for every loop body that leaves the row and its box as they are. -/
import Derived.Test.YtkaohjlnlgennaaRnd
import Derived.Test.YtkaohjlnlgennaaFls
namespace Go.Proofs.Ytkaohjlnlgennaa.st
open Go.ChangeShapes Go.WideShapes Go.ChangeAt Go.RowKit Go.Proofs.Ytkaohjlnlgennaa.hp Go.Proofs.Ytkaohjlnlgennaa.tm Go.Proofs.Ytkaohjlnlgennaa.ev
set_option linter.unusedVariables false
set_option linter.unusedSimpArgs false

attribute [local go_sem] Oper.semAt_some

/-- The blocks of which p holds are as they were. -/
def Kq (p : Nat → Prop) (W W' : World) : Prop := ∀ b, p b → W'.heap[b]? = W.heap[b]?
theorem Kq.refl (p : Nat → Prop) (W : World) : Kq p W W := fun _ _ => rfl
theorem Kq.trans {p : Nat → Prop} {A B C : World} (h : Kq p A B) (k : Kq p B C) : Kq p A C := fun b hb => (k b hb).trans (h b hb)
theorem Kq.cell {p : Nat → Prop} {A B : World} (h : Kq p A B) {y : Addr} (hy : p y.block) : B.cell? y = A.cell? y := World.cell?_of_block (h _ hy)
theorem Kq.of_chg {p F : Nat → Prop} {A B : World} (h : Chg F A B) (hp : ∀ b, p b → ¬ F b ∧ b < A.heap.size) : Kq p A B := fun b hb => h.block b (hp b hb).2 (hp b hb).1

def idxAt (len k : Nat) : Int := if k < len then ((len - 1 - k : Nat) : Int) else -1

/-- What is told, one by one: the row from its end on. -/
def Backs {α : Type} (encs : α → Array Value) (zs : List Int) (ys : List α) : Prop := ys.length = zs.length ∧ ∀ (k : Nat) (hk : k < ys.length), encs ys[k] = #[.int .i64 ((zs.length - 1 - k : Nat) : Int), .int .i64 (zs.getD (zs.length - 1 - k) 0)]

set_option maxRecDepth 100000 in
set_option maxHeartbeats 2000000 in
theorem bw1_in {α : Type} {encs : α → Array Value} {ys : List α} (n : Nat) (hn : 1 ≤ n) (l Bs len cap : Nat) (a : Option Addr) (zs : List Int) (hlen : zs.length = len) (hl : len ≤ 100000) (ho : Backs encs zs ys) (p : Nat → Prop) (hpB : p Bs) (J Jx : List α → World → Prop)
    (hY : ∀ pre x W, J pre W → pre.length < len → YieldAt Fence.wide (n - 1) Try.prog l (encs x) W fun e W' =>
      (e = .returned (.bool true) ∧ J (pre ++ [x]) W' ∧ Kq p W W') ∨ (e = .returned (.bool false) ∧ Jx (pre ++ [x]) W'))
    (W : World) (hBs : W.cell? ⟨Bs, 0, none⟩ = some (.slice a len cap)) (hc : ∀ j, j < len → ∃ y, a = some y ∧ p y.block ∧ W.cell? (y.add j) = some (.int .i64 (zs.getD j 0))) (h0 : J [] W) :
    CallsIn Fence.wide n Try.prog 51 #[.func (.yield l) #[] #[], .pointer (some ⟨Bs, 0, none⟩)] W fun e W' => (∃ v, e = .returned v) ∧
      ((∃ xs, xs = ys ∧ J xs W') ∨ (∃ pre, pre <+: ys ∧ Jx pre W')) := by
  have HC : Hid (∀ j, j < len → ∃ y, a = some y ∧ p y.block ∧ W.cell? (y.add j) = some (.int .i64 (zs.getD j 0))) := hc
  have HB : Hid (W.cell? ⟨Bs, 0, none⟩ = some (.slice a len cap)) := hBs
  have HLY : Hid (ys.length = len) := by
    show _ = _
    rw [ho.1, hlen]
  have HO : Hid (∀ (k : Nat) (hk : k < ys.length), encs ys[k] = #[.int .i64 ((len - 1 - k : Nat) : Int), .int .i64 (zs.getD (len - 1 - k) 0)]) := fun k hk => by
    rw [ho.2 k hk, hlen]
  have hli : (len : Int) ≤ 100000 := by omega
  have w1 : IntKind.i64.wrap ((len : Int) - 1) = (len : Int) - 1 := by rw [IntKind.wrap_i64]; omega
  have HS : Hid (((len : Int) - 1) = idxAt len 0) := by
    show _ = _
    unfold idxAt
    split <;> omega
  clear hc hlen ho
  refine callsIn_of_wp Try.func51 rfl trivial ?_ rfl
  simp only [Try.ntmps51, List.size_toArray, List.length_cons, List.length_nil, Nat.reduceAdd, Nat.reduceSub, Array.replicate_succ, Array.replicate_zero, List.push_toArray, List.append_toArray, List.nil_append, List.cons_append]
  gi_wp2
  rw [HS.out]
  gi_loopw [3] (fun i wr => ∃ k : Nat, k ≤ len ∧ i = .int .i64 (idxAt len k) ∧ J (ys.take k) wr ∧ Kq p W wr)
    (fun i _ => (intOf i + 1).toNat)
  case atStart => exact ⟨0, Nat.zero_le _, rfl, by rw [List.take_zero]; exact h0, Kq.refl _ _⟩
  case round =>
    obtain ⟨k, hk, rfl, hJs, hnx⟩ := hrel
    clear w1 HS
    by_cases hlt : k < len
    · obtain ⟨m, hm⟩ : ∃ m, len - 1 - k = m := ⟨_, rfl⟩
      have hi : idxAt len k = (m : Int) := by unfold idxAt; rw [if_pos hlt, hm]
      have hi2 : Hid (idxAt len (k + 1) = (m : Int) - 1) := by
        show _ = _
        unfold idxAt
        split <;> omega
      obtain ⟨y, rfl, hy1, hy2⟩ := HC.out m (by omega)
      have hcx : wr.cell? (y.add m) = some (.int .i64 (zs.getD m 0)) := (hnx.cell (by rw [add_block]; exact hy1)).trans hy2
      have hbx : wr.cell? ⟨Bs, 0, none⟩ = some (.slice (some y) len cap) := (hnx.cell hpB).trans HB.out
      have hky : k < ys.length := by rw [HLY.out]; exact hlt
      have hek := HO.out k hky
      rw [hm] at hek
      have HTK : Hid (ys.take (k + 1) = ys.take k ++ [ys[k]]) := List.take_succ_eq_append_getElem hky
      obtain ⟨V, hV⟩ : ∃ V, zs.getD m 0 = V := ⟨_, rfl⟩
      rw [hV] at hcx hek
      have HNX : Hid (Kq p W wr) := hnx
      rw [hi]
      have hmi : (m : Int) < len := by omega
      have wm : IntKind.i64.wrap ((m : Int) - 1) = (m : Int) - 1 := by rw [IntKind.wrap_i64]; omega
      have hYk := hY _ ys[k] wr hJs (by rw [List.length_take]; omega)
      rw [hek, ← HTK.out] at hYk
      obtain ⟨fn, tmps, assign, body, hy, hR⟩ := hYk
      clear hV hi hy2 hnx hek HC
      gi_wp2
      refine hR.mono ?_
      rintro e W3 (⟨rfl, hJ3, hk3⟩ | ⟨rfl, hJx3⟩)
      · gi_wp2
        go_roundw
        case rel => exact ⟨k + 1, by omega, by rw [hi2.out], hJ3, HNX.out.trans hk3⟩
        case measure => simp [intOf]
      · gi_wp2
        refine bodyPost_ret (results_none rfl _ _ _) rfl ?_
        exact ⟨⟨_, rfl⟩, .inr ⟨_, List.take_prefix _ _, hJx3⟩⟩
    · obtain rfl : k = len := by omega
      have hi : idxAt k k = -1 := by unfold idxAt; rw [if_neg (by omega)]
      rw [hi]
      gi_wp2
      go_end0
      rw [List.take_of_length_le (by rw [HLY.out]; exact Nat.le_refl _)] at hJs
      exact ⟨⟨_, rfl⟩, .inl ⟨_, rfl, hJs⟩⟩

theorem backward_in (n : Nat) (a : Option Addr) (len cap : Nat) (w : World) :
    CallsIn Fence.wide n Try.prog 29 #[.slice a len cap] w fun e w' => e = .returned (.func (.func 51) #[] #[.pointer (some ⟨w.heap.size, 0, none⟩)]) ∧ w' = w.alloc (.cells #[.slice a len cap] 22) := by
  refine callsIn_of_wp Try.func29 rfl trivial ?_ rfl
  simp only [Try.ntmps29, List.size_toArray, List.length_cons, List.length_nil, Nat.reduceAdd, Nat.reduceSub, Array.replicate_succ, Array.replicate_zero, List.push_toArray, List.append_toArray, List.nil_append, List.cons_append]
  gi_wp2
  go_ret
  exact ⟨rfl, rfl⟩

theorem bw_stops {α : Type} {encs : α → Array Value} {ys : List α} (n : Nat) (hn : 1 ≤ n) (Bs len cap : Nat) (a : Option Addr) (zs : List Int) (hlen : zs.length = len) (hl : len ≤ 100000) (ho : Backs encs zs ys) (p : Nat → Prop) (hpB : p Bs) (w : World) (hp : ∀ b, p b → b < w.heap.size)
    (hBs : w.cell? ⟨Bs, 0, none⟩ = some (.slice a len cap)) (hc : ∀ j, j < len → ∃ y, a = some y ∧ p y.block ∧ w.cell? (y.add j) = some (.int .i64 (zs.getD j 0))) :
    SeqStopsK Fence.wide n Try.prog 51 #[.pointer (some ⟨Bs, 0, none⟩)] encs (Kq p) (fun xs => xs = ys) (fun pre => pre <+: ys) len w := fun l J Jx W hW _ _ hY h0 => by
  have k : Kq p w W := fun b hb => hW.block b (hp b hb)
  refine bw1_in n hn l Bs len cap a zs hlen hl ho p hpB J Jx hY W ((k.cell hpB).trans hBs) (fun j hj => ?_) h0
  obtain ⟨y, e, h1, h2⟩ := hc j hj
  exact ⟨y, e, h1, (k.cell (by rw [add_block]; exact h1)).trans h2⟩

end Go.Proofs.Ytkaohjlnlgennaa.st
