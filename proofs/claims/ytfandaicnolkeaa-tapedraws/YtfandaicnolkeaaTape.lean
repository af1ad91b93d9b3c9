/- Contracts of package tape's faces: NewLeaves, NewPads, Leaves.Draw, Drawn, Left. -/
import Derived.Test.YtfandaicnolkeaaSmall
namespace Go.Proofs.Ytfandaicnolkeaa.tp
open Go.ChangeShapes Go.WideShapes Go.ChangeAt Go.RowKit Go.Proofs.Ytfandaicnolkeaa.hp
set_option linter.unusedVariables false

/-- The leaf that is drawn: of the number's own, or of 0 below 0 and behind the end. -/
def leafOf (zs : List Int) (d h : Nat) : Int := (max (zs.getD d 0) 0) % 2 ^ h

/-- A slice of integers that is read: nil, or an address behind which its elements lie. -/
def Arg (k : IntKind) (w : World) (a : Option Addr) (len cap : Nat) (zs : List Int) : Prop :=
  (a = none ∧ len = 0 ∧ cap = 0 ∧ zs = []) ∨ ∃ x, a = some x ∧ zs.length = len ∧ ∀ i, i < len → w.cell? (x.add i) = some (.int k (zs.getD i 0))

/-- A tape in memory: block p of type T holds its length, how many were drawn, its own row v of the numbers zs; all of it lies from block lo on and below block hi. -/
structure Tp (T E : TypeId) (k : IntKind) (w : World) (p d : Nat) (zs : List Int) (v : Value) (lo hi : Nat) : Prop where
  blk : w.heap[p]? = some (.cells #[.int .i64 zs.length, .int .i64 d, v] T (0, 0))
  row : w.ownsRow lo E 1 v zs.length (zs.map (Value.int k))
  len : zs.length ≤ 100000
  plo : lo ≤ p
  phi : p < hi
  own : ∀ k, v.ownBlock = some k → lo ≤ k ∧ k < hi ∧ k ≠ p
  size : hi ≤ w.heap.size

theorem Tp.chg {T E : TypeId} {k : IntKind} {w w' : World} {p d : Nat} {zs : List Int} {v : Value} {lo hi : Nat} (h : Tp T E k w p d zs v lo hi) {l : List Nat} (c : Chg l w w') (hl : ∀ x, x ∈ l → x < lo ∨ hi ≤ x) : Tp T E k w' p d zs v lo hi :=
  ⟨c.heap h.blk (fun e => by have := hl p e; have := h.plo; have := h.phi; omega), c.owns h.row (fun k hk e => by have := hl k e; have := h.own k hk; omega), h.len, h.plo, h.phi, h.own, Nat.le_trans h.size c.size⟩

theorem Tp.step {T E : TypeId} {k : IntKind} {w : World} {p d d' : Nat} {zs : List Int} {v : Value} {lo hi : Nat} (h : Tp T E k w p d zs v lo hi) (m : Nat) (u : Value) (hu : u = .int .i64 d') : Tp T E k ((w.setCell ⟨p, 1, none⟩ u).drewN m) p d' zs v lo hi := by
  subst hu
  exact ⟨heap_set3 h.blk, owns_drewN (ownsRow_setCell_other h.row (by intro e; have := (h.own p e).2.2; exact this rfl) _) m, h.len, h.plo, h.phi, h.own, by simpa using h.size⟩

theorem owns_shape {w : World} {base : Nat} {e : TypeId} {size : Nat} {v : Value} {n : Nat} {xs : List Value} (h : w.ownsRow base e size v n xs) : ∃ a c, v = .slice a n c := by
  rcases h.2 with ⟨rfl, rfl⟩ | ⟨g, cap, cur, rfl, _⟩
  · exact ⟨_, _, rfl⟩
  · exact ⟨_, _, rfl⟩

theorem Tp.slice {T E : TypeId} {k : IntKind} {w : World} {p d : Nat} {zs : List Int} {v : Value} {lo hi : Nat} (h : Tp T E k w p d zs v lo hi) :
    ∃ a c, v = .slice a zs.length c ∧ (∀ i, i < zs.length → ∃ x, a = some x ∧ w.cell? (x.add i) = some (.int k (zs.getD i 0))) := by
  rcases h.row.2 with ⟨rfl, hn⟩ | ⟨g, cap, cur, rfl, hb, hg, hc, hm, hs, ht⟩
  · exact ⟨_, _, by rw [hn], fun i hi => by omega⟩
  · refine ⟨_, _, rfl, fun i hi => ⟨_, rfl, ?_⟩⟩
    have := h.row.cellAt i (by omega)
    rw [Addr.add_lit]
    simpa [hi] using this

theorem clone_any (a : Option Addr) (len cap : Nat) (zs : List Int) (w : World) (h : Arg .i64 w a len cap zs) (hl : len ≤ 100000) :
    Calls Try.prog 19 #[.slice a len cap] w fun e w' => ∃ a' c', e = .returned (.slice a' len c') ∧ w'.ownsRow w.heap.size 3 1 (.slice a' len c') len (zs.map (Value.int .i64)) ∧ Below w.heap.size w w' := by
  rcases h with ⟨rfl, rfl, rfl, rfl⟩ | ⟨x, rfl, hz, hc⟩
  · refine (clone_none w).mono fun e w' h => ?_
    obtain ⟨rfl, rfl⟩ := h
    exact ⟨_, _, rfl, World.ownsRow_nil _ _ _ _, Below.refl _ _⟩
  · refine (clone_some x len cap zs w hz hl hc).mono fun e w' h => ?_
    obtain ⟨v, rfl, ho, hb⟩ := h
    obtain ⟨a', c', rfl⟩ := owns_shape ho
    exact ⟨a', c', rfl, ho, hb⟩

theorem cloneb_any (a : Option Addr) (len cap : Nat) (zs : List Int) (w : World) (h : Arg .u8 w a len cap zs) (hl : len ≤ 100000) :
    Calls Try.prog 20 #[.slice a len cap] w fun e w' => ∃ a' c', e = .returned (.slice a' len c') ∧ w'.ownsRow w.heap.size 5 1 (.slice a' len c') len (zs.map (Value.int .u8)) ∧ Below w.heap.size w w' := by
  rcases h with ⟨rfl, rfl, rfl, rfl⟩ | ⟨x, rfl, hz, hc⟩
  · refine (cloneb_none w).mono fun e w' h => ?_
    obtain ⟨rfl, rfl⟩ := h
    exact ⟨_, _, rfl, World.ownsRow_nil _ _ _ _, Below.refl _ _⟩
  · refine (cloneb_some x len cap zs w hz hl hc).mono fun e w' h => ?_
    obtain ⟨v, rfl, ho, hb⟩ := h
    obtain ⟨a', c', rfl⟩ := owns_shape ho
    exact ⟨a', c', rfl, ho, hb⟩

theorem Arg.len {k : IntKind} {w : World} {a : Option Addr} {len cap : Nat} {zs : List Int} (h : Arg k w a len cap zs) : zs.length = len := by
  rcases h with ⟨rfl, rfl, rfl, rfl⟩ | ⟨x, rfl, hz, hc⟩
  · rfl
  · exact hz

theorem Arg.below {k : IntKind} {w w' : World} {a : Option Addr} {len cap : Nat} {zs : List Int} (h : Arg k w a len cap zs) (b : Below w.heap.size w w') : Arg k w' a len cap zs := by
  rcases h with ⟨rfl, rfl, rfl, rfl⟩ | ⟨x, rfl, hz, hc⟩
  · exact .inl ⟨rfl, rfl, rfl, rfl⟩
  · exact .inr ⟨x, rfl, hz, fun i hi => (Chg.of_below b []).cell (hc i hi) (by simp)⟩

theorem leaf_pair (zs : List Int) (k l h : Nat) (P Q : Int) (hlh : l ≤ h) (hP : P = 2 ^ l) (hQ : Q = 2 ^ h) :
    ∃ N M : Int, leafOf zs k l = N ∧ leafOf zs k h = M ∧ N = M % P ∧ 0 ≤ M ∧ M < Q := by
  refine ⟨_, _, rfl, rfl, ?_, ?_, ?_⟩
  · subst hP
    unfold leafOf
    rw [Int.emod_emod_of_dvd]
    exact ⟨2 ^ (h - l), by rw [← Int.pow_add]; congr 1; omega⟩
  · exact Int.emod_nonneg _ (by have : (0 : Int) < 2 ^ h := Int.pow_pos (by omega); omega)
  · subst hQ
    exact Int.emod_lt_of_pos _ (Int.pow_pos (by omega))

theorem tp_new {T E : TypeId} {k : IntKind} {w w1 : World} {zs : List Int} {a : Option Addr} {len c : Nat} (hz : zs.length = len) (hl : len ≤ 100000) (ho : w1.ownsRow w.heap.size E 1 (.slice a len c) len (zs.map (Value.int k))) (hb : Below w.heap.size w w1) :
    Tp T E k (w1.alloc (.cells #[.int .i64 len, .int .i64 0, .slice a len c] T)) w1.heap.size 0 zs (.slice a len c) w.heap.size (w1.heap.size + 1) := by
  subst hz
  exact ⟨heap_alloc_new w1 _, ho.alloc _, hl, hb.size, by omega, fun g hg => by have := ho.lt g hg; omega, by simp⟩

theorem newLeaves_any (a : Option Addr) (len cap : Nat) (zs : List Int) (w : World) (h : Arg .i64 w a len cap zs) (hl : len ≤ 100000) :
    Calls Try.prog 10 #[.slice a len cap] w fun e w' => ∃ p v, e = .returned (.pointer (some ⟨p, 0, none⟩)) ∧ Tp 46 3 .i64 w' p 0 zs v w.heap.size w'.heap.size ∧ Below w.heap.size w w' := by
  have hlen := h.len
  have H : Hid (zs.length = len) := hlen
  clear hlen
  go_enter Try.func10, Try.ntmps10
  go_wp2_with (go_at_call 19; refine (clone_any a len cap zs w h hl).mono ?_; rintro e w1 ⟨a', c', rfl, ho, hb⟩)
  go_ret
  exact ⟨_, _, rfl, by simpa using tp_new H.out hl ho hb, hb.alloc hb.size _⟩

theorem newPads_any (a : Option Addr) (len cap : Nat) (zs : List Int) (w : World) (h : Arg .u8 w a len cap zs) (hl : len ≤ 100000) :
    Calls Try.prog 11 #[.slice a len cap] w fun e w' => ∃ p v, e = .returned (.pointer (some ⟨p, 0, none⟩)) ∧ Tp 50 5 .u8 w' p 0 zs v w.heap.size w'.heap.size ∧ Below w.heap.size w w' := by
  have hlen := h.len
  have H : Hid (zs.length = len) := hlen
  clear hlen
  go_enter Try.func11, Try.ntmps11
  go_wp2_with (go_at_call 20; refine (cloneb_any a len cap zs w h hl).mono ?_; rintro e w1 ⟨a', c', rfl, ho, hb⟩)
  go_ret
  exact ⟨_, _, rfl, by simpa using tp_new H.out hl ho hb, hb.alloc hb.size _⟩

theorem number_tp {w : World} {p d : Nat} {zs : List Int} {v : Value} {lo hi : Nat} (h : Tp 46 3 .i64 w p d zs v lo hi) (k : Nat) :
    Calls Try.prog 22 #[.pointer (some ⟨p, 0, none⟩), .int .i64 k] w fun e w' => e = .returned (.int .i64 (max (zs.getD k 0) 0)) ∧ w' = w := by
  obtain ⟨a, c, rfl, hcell⟩ := h.slice
  by_cases hk : k < zs.length
  · obtain ⟨x, rfl, hc⟩ := hcell k hk
    exact number_in p k x zs.length c (zs.getD k 0) w (cells3 h.blk).2.2.1 (by omega) (by omega) (by have := h.len; omega) (by simpa using hc)
  · refine (number_out p k a zs.length c w (cells3 h.blk).2.2.1 (by omega)).mono fun e w' hh => ⟨hh.1.trans (ret_int ?_), hh.2⟩
    rw [List.getD_eq_getElem?_getD, List.getElem?_eq_none (by omega)]
    rfl


theorem pow_ex (ht : Nat) (hh : ht ≤ 6) : ∃ P : Int, IntKind.i64.wrap ((2 : Int) ^ ht) = P ∧ 1 ≤ P ∧ P ≤ 64 ∧ Hid (P = 2 ^ ht) := by
  refine ⟨2 ^ ht, ?_⟩
  match ht, hh with
  | 0, _ => exact ⟨by decide, by decide, by decide, rfl⟩
  | 1, _ => exact ⟨by decide, by decide, by decide, rfl⟩
  | 2, _ => exact ⟨by decide, by decide, by decide, rfl⟩
  | 3, _ => exact ⟨by decide, by decide, by decide, rfl⟩
  | 4, _ => exact ⟨by decide, by decide, by decide, rfl⟩
  | 5, _ => exact ⟨by decide, by decide, by decide, rfl⟩
  | 6, _ => exact ⟨by decide, by decide, by decide, rfl⟩

theorem draw_any {w : World} {p d : Nat} {zs : List Int} {v : Value} {lo hi : Nat} (h : Tp 46 3 .i64 w p d zs v lo hi) (hd : d ≤ 1000000) (ht : Nat) (hh : ht ≤ 6) :
    Calls Try.prog 12 #[.pointer (some ⟨p, 0, none⟩), .int .i64 ht] w fun e w' => e = .returned (.tuple #[.int .i64 (leafOf zs d ht), .int .i64 d]) ∧ Tp 46 3 .i64 w' p (d + 1) zs v lo hi ∧ Chg [p] w w' := by
  obtain ⟨c0, c1, c2, f1⟩ := cells3 h.blk
  have H := h
  have hm : 0 ≤ max (zs.getD d 0) 0 := by omega
  clear h
  obtain ⟨P, hP, hP1, hP2, HP⟩ := pow_ex ht hh
  go_enter Try.func12, Try.ntmps12
  go_wp2_with (go_at_call 21; refine (advance_any p d 1 w c1 f1 (by omega) (by omega) (by omega)).mono ?_; rintro e w1 ⟨rfl, rfl⟩)
  have H1 := fun m => H.step (d' := d + 1) m (.int .i64 ((d : Int) + 1)) (by rfl)
  go_quiet ((go_at_call 22; go_must (exact Calls.quiet_of_same (number_tp (H1 _) d))))
  go_wp2
  go_ret2
  exact ⟨ret_two (by rw [HP.out, leafOf, List.getD_eq_getElem?_getD]) rfl, H1 nq, (((Chg.refl [p] w).setCell _ _ (.inl (by simp))).drewN nq)⟩

theorem draw_bad (p : Nat) (w : World) (h : Int) (hh : h < 0 ∨ 6 < h) :
    Calls Try.prog 12 #[.pointer (some ⟨p, 0, none⟩), .int .i64 h] w fun e w' => e = .returned (.tuple #[.int .i64 0, .int .i64 (-1)]) ∧ w' = w := by
  rcases hh with h1 | h1
  · go_enter Try.func12, Try.ntmps12
    go_wp2
    go_ret2
    exact ⟨rfl, rfl⟩
  · have h2 : ¬ h < 0 := by omega
    go_enter Try.func12, Try.ntmps12
    go_wp2
    go_ret2
    exact ⟨rfl, rfl⟩

theorem leaf_52 : leafOf [5, 2] 0 1 = 1 ∧ leafOf [5, 2] 1 2 = 2 ∧ leafOf [5, 2] 2 2 = 0 := by decide

theorem draw_at {w : World} {p : Nat} {v : Value} {lo hi : Nat} (d : Nat) (d' : Int) (hdd : d' = d) (zs : List Int) (h : Tp 46 3 .i64 w p d zs v lo hi) (hd : d ≤ 1000000) (ht : Nat) (ht' : Int) (htt : ht' = ht) (hh : ht ≤ 6) (r : Int) (hr : leafOf zs d ht = r) :
    Calls Try.prog 12 #[.pointer (some ⟨p, 0, none⟩), .int .i64 ht'] w fun e w' => e = .returned (.tuple #[.int .i64 r, .int .i64 d']) ∧ Tp 46 3 .i64 w' p (d + 1) zs v lo hi ∧ Chg [p] w w' := by
  subst hdd htt hr
  exact draw_any h hd ht hh

theorem left_tp {T E : TypeId} {k : IntKind} {w : World} {p d : Nat} {zs : List Int} {v : Value} {lo hi : Nat} (h : Tp T E k w p d zs v lo hi) (hd : d ≤ 1000000000) :
    Calls Try.prog 15 #[.pointer (some ⟨p, 0, none⟩)] w fun e w' => e = .returned (.int .i64 (max ((zs.length : Int) - d) 0)) ∧ ∃ m, w' = w.drewN m :=
  left_any p zs.length d w (cells3 h.blk).1 (cells3 h.blk).2.1 (by omega) (by omega) (by omega) (by have := h.len; omega)

theorem drawn_tp {T E : TypeId} {k : IntKind} {w : World} {p d : Nat} {zs : List Int} {v : Value} {lo hi : Nat} (h : Tp T E k w p d zs v lo hi) :
    Calls Try.prog 14 #[.pointer (some ⟨p, 0, none⟩)] w fun e w' => e = .returned (.int .i64 d) ∧ w' = w :=
  drawn_any p d w (cells3 h.blk).2.1

theorem arg_two (w : World) : Arg .i64 (w.alloc (.cells #[.int .i64 5, .int .i64 2] 3)) (some ⟨w.heap.size, 0, none⟩) 2 2 [5, 2] := by
  refine .inr ⟨_, rfl, rfl, fun i hi => ?_⟩
  rw [Addr.add_lit]
  match i, hi with
  | 0, _ => simp
  | 1, _ => simp

set_option maxHeartbeats 800000 in
theorem first_any (w : World) : Calls Try.prog 7 #[] w fun e w' => e = .returned (.bool true) ∧ Below w.heap.size w w' := by
  go_enter Try.func7, Try.ntmps7
  go_wp2_with fail
  refine (newLeaves_any _ 2 2 [5, 2] _ (arg_two w) (by omega)).mono ?_
  rintro e w1 ⟨p, v, rfl, t0, b0⟩
  go_wp2_with fail
  refine (draw_at 0 0 rfl [5, 2] t0 (by omega) 1 1 rfl (by omega) 1 leaf_52.1).mono ?_
  rintro e w2 ⟨rfl, t1, b1⟩
  go_wp2_with fail
  refine (draw_at 1 1 rfl [5, 2] t1 (by omega) 2 2 rfl (by omega) 2 leaf_52.2.1).mono ?_
  rintro e w3 ⟨rfl, t2, b2⟩
  go_wp2_with fail
  refine (draw_at 2 2 rfl [5, 2] t2 (by omega) 2 2 rfl (by omega) 0 leaf_52.2.2).mono ?_
  rintro e w4 ⟨rfl, t3, b3⟩
  go_wp2_with fail
  refine (drawn_tp t3).mono ?_
  rintro e w5 ⟨rfl, rfl⟩
  go_wp2_with fail
  refine (left_tp t3 (by omega)).mono ?_
  rintro e w6 ⟨rfl, m, rfl⟩
  go_wp2
  go_ret
  have hp : w.heap.size ≤ p := by have := t0.plo; simp at this; omega
  have hin : ∀ x, x ∈ [p] → x ∈ [] ∨ w.heap.size ≤ x := by intro x hx; simp at hx; subst hx; exact .inr hp
  have c0 : Chg [] w w1 := ((Chg.refl [] w).alloc _).trans (Chg.of_below b0 []) (by simp)
  exact ⟨ret_bool (by decide), (((c0.trans b1 hin).trans b2 hin).trans b3 hin).drewN m |>.below⟩
end Go.Proofs.Ytfandaicnolkeaa.tp
