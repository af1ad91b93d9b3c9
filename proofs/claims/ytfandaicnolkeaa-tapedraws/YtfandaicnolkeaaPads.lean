/- Contracts of Pads.Draw and of the comparison of bytes. -/
import Derived.Test.YtfandaicnolkeaaTape
import Derived.Laws.CopyOwn
import Derived.Deep.RegionWith
namespace Go.Proofs.Ytfandaicnolkeaa.tp
open Go.ChangeShapes Go.WideShapes Go.ChangeAt Go.RowKit Go.Proofs.Ytfandaicnolkeaa.hp
set_option linter.unusedVariables false

/-- The bytes that are drawn: those of the tape, and 0 behind its end. -/
def padsOf (zs : List Int) (d n : Nat) : List Int := (List.range n).map fun i => zs.getD (d + i) 0

theorem pads_bad (p : Nat) (w : World) (n : Int) (hh : n < 1 ∨ 1048576 < n) :
    Calls Try.prog 17 #[.pointer (some ⟨p, 0, none⟩), .int .i64 n] w fun e w' => e = .returned (.slice none 0 0) ∧ w' = w := by
  rcases hh with h1 | h1
  · go_enter Try.func17, Try.ntmps17
    go_wp2
    go_ret
    exact ⟨rfl, rfl⟩
  · have h2 : ¬ n < 1 := by omega
    go_enter Try.func17, Try.ntmps17
    go_wp2
    go_ret
    exact ⟨rfl, rfl⟩

theorem Tp.below {T E : TypeId} {k : IntKind} {w w' : World} {p d : Nat} {zs : List Int} {v : Value} {lo hi B : Nat} (h : Tp T E k w p d zs v lo hi) (b : Below B w w') (hB : hi ≤ B) : Tp T E k w' p d zs v lo hi := by
  have hb : ∀ x, x < hi → w'.heap[x]? = w.heap[x]? := fun x hx => b.block x (by omega)
  refine ⟨(hb p h.phi).trans h.blk, ⟨h.row.1, ?_⟩, h.len, h.plo, h.phi, h.own, Nat.le_trans h.size b.size⟩
  rcases h.row.2 with hh | ⟨g, cap, cur, rfl, hlo, hg, rest⟩
  · exact .inl hh
  · exact .inr ⟨g, cap, cur, rfl, hlo, (hb g (h.own g rfl).2.1).trans hg, rest⟩

theorem chg_below {l : List Nat} {a b c : World} {B : Nat} (h : Chg l a b) (k : Below B b c) (hB : a.heap.size ≤ B) : Chg l a c :=
  ⟨k.os.trans h.os, k.tape.trans h.tape, k.output.trans h.output, Nat.le_trans h.size k.size, fun i hi hn => (k.block i (by omega)).trans (h.block i hi hn)⟩

theorem row_whole {w : World} {base g n : Nat} {e : TypeId} {xs : List Value} (h : w.ownsRow base e 1 (.slice (some ⟨g, 0, none⟩) n n) n xs) : w.heap[g]? = some (.cells xs.toArray e (0, 0)) ∧ base ≤ g := by
  rcases h.2 with ⟨hv, _⟩ | ⟨g', cap, cur, hv, hb, hg, _, _, hs, ht⟩
  · cases hv
  · simp at hv
    obtain ⟨rfl, rfl⟩ := hv
    refine ⟨?_, hb⟩
    rw [hg]
    congr 2
    rw [← ht, List.take_of_length_le (by simp; omega)]

theorem owns_of_block {w : World} {g n : Nat} {e : TypeId} {xs : List Value} (h : w.heap[g]? = some (.cells xs.toArray e (0, 0))) (hn : xs.length = n) (hm : n ≤ maxLen) (base : Nat) (hb : base ≤ g) : w.ownsRow base e 1 (.slice (some ⟨g, 0, none⟩) n n) n xs :=
  ⟨by omega, .inr ⟨g, n, xs.toArray, rfl, hb, h, Nat.le_refl _, hm, by simp [hn], by simp; rw [← hn]; exact List.take_length⟩⟩

theorem pads_splice (zs : List Int) (d n : Nat) : splice ((madeCells #[Value.int .u8 0] n).toList) 0 (((zs.drop d).take n).map (Value.int .u8)) = (padsOf zs d n).map (Value.int .u8) := by
  rw [toList_madeCells_one]
  apply List.ext_getElem
  · simp [splice, padsOf]; omega
  · intro i h1 h2
    simp [splice, padsOf] at h1 h2 ⊢
    by_cases hi : i < min n (zs.length - d)
    · rw [List.getElem_append_left (by simpa using hi)]
      simp
      rw [List.getElem?_eq_getElem (by omega)]
      rfl
    · rw [List.getElem_append_right (by simp; omega)]
      simp
      rw [List.getElem?_eq_none (by omega)]
      rfl

theorem cap_ge {w : World} {base : Nat} {e : TypeId} {v : Value} {n c : Nat} {a : Option Addr} {xs : List Value} (h : w.ownsRow base e 1 v n xs) (hv : v = .slice a n c) : n ≤ c := by
  rcases h.2 with ⟨rfl, hn⟩ | ⟨g, cap, cur, rfl, _, _, hc, _⟩
  · omega
  · simp at hv; omega

theorem copy_pos {T : TypeId} {w : World} {p d' d n : Nat} {zs : List Int} {a : Option Addr} {c lo hi : Nat} (h : Tp T 5 .u8 w p d' zs (.slice a zs.length c) lo hi) :
    0 < (((zs.drop d).take n).map (Value.int .u8)).length → ∃ ad, Option.map (fun x => x.add d) a = some ad ∧ ∀ (j : Nat) (u : Value), (((zs.drop d).take n).map (Value.int .u8))[j]? = some u → w.cell? (ad.add j) = some u := by
  intro hp
  simp at hp
  rcases h.row.2 with ⟨hv, hn⟩ | ⟨g, cap, cur, hv, hb, hg, hc, hm, hs, ht⟩
  · omega
  · simp at hv
    obtain ⟨rfl, rfl⟩ := hv
    refine ⟨_, rfl, fun j u hu => ?_⟩
    simp only [Addr.add_lit]
    rw [List.getElem?_map] at hu
    obtain ⟨z, hz, rfl⟩ := Option.map_eq_some_iff.1 hu
    rw [List.getElem?_take] at hz
    split at hz
    · rw [List.getElem?_drop] at hz
      have hlt : d + j < zs.length := (List.getElem?_eq_some_iff.1 hz).1
      have := h.row.cellAt (d + j) (by omega)
      rw [List.getElem?_map, hz] at this
      simpa using this
    · cases hz

theorem copy_len {CS : List Value} {n k d m : Nat} (h : CS.length = min n (k - d)) (hm : m = k - d) : CS.length = Nat.min m n := by
  rw [h, hm, Nat.min_comm]

theorem copy_way {CS : List Value} {n k d : Nat} {a sp dp : Option Addr} {g : Nat} {w : World} (h : CS.length = min n (k - d)) (hp : 0 < CS.length → ∃ ad, Option.map (fun x => x.add d) a = some ad ∧ ∀ (j : Nat) (u : Value), CS[j]? = some u → w.cell? (ad.add j) = some u)
    (hs : k ≤ d ∨ (dp = some ⟨g, 0, none⟩ ∧ sp = Option.map (fun x => x.add d) a)) : 0 < CS.length → dp = some ⟨g, 0, none⟩ ∧ ∃ ad, sp = some ad ∧ ∀ (j : Nat) (u : Value), CS[j]? = some u → w.cell? (ad.add j) = some u := by
  intro h0
  rcases hs with hs | ⟨rfl, rfl⟩
  · omega
  · exact ⟨rfl, hp h0⟩

theorem pads_end {w w1 w3 : World} {p d n : Nat} {zs : List Int} {v : Value} {lo hi : Nat} {u : Value} {CS : List Value} (h : Tp 50 5 .u8 w p d zs v lo hi) (hg : w.grownBy w1 none) (H2 : Tp 50 5 .u8 ((w1.setCell ⟨p, 1, none⟩ u).drew) p (d + n) zs v lo hi)
    (h2 : n ≤ 1048576) (hC : CS = ((zs.drop d).take n).map (Value.int .u8)) (G3 : w3.heap[w.heap.size]? = some (.cells (splice (madeCells #[Value.int .u8 0] n).toList 0 CS).toArray 5 (0, 0))) (B3 : Below w.heap.size ((w1.setCell ⟨p, 1, none⟩ u).drew) w3) :
    w3.ownsRow w.heap.size 5 1 (.slice (some ⟨w.heap.size, 0, none⟩) n n) n ((padsOf zs d n).map (Value.int .u8)) ∧ Tp 50 5 .u8 w3 p (d + n) zs v lo hi ∧ Chg [p] w w3 := by
  subst hC
  rw [pads_splice] at G3
  refine ⟨owns_of_block G3 (by simp [padsOf]) (by unfold maxLen; omega) _ (Nat.le_refl _), H2.below B3 h.size, chg_below (((((grown_chg hg).mono (by simp)).setCell _ _ (.inl (by simp))).drew)) B3 (Nat.le_refl _)⟩

set_option maxHeartbeats 1000000 in
theorem pads_draw {w : World} {p d : Nat} {zs : List Int} {v : Value} {lo hi : Nat} (h : Tp 50 5 .u8 w p d zs v lo hi) (hd : d ≤ 100000000) (n : Nat) (h1 : 1 ≤ n) (h2 : n ≤ 1048576) :
    Calls Try.prog 17 #[.pointer (some ⟨p, 0, none⟩), .int .i64 n] w fun e w' => e = .returned (.slice (some ⟨w.heap.size, 0, none⟩) n n) ∧ w'.ownsRow w.heap.size 5 1 (.slice (some ⟨w.heap.size, 0, none⟩) n n) n ((padsOf zs d n).map (Value.int .u8)) ∧
      Tp 50 5 .u8 w' p (d + n) zs v lo hi ∧ Chg [p] w w' := by
  obtain ⟨i0, hi0, hz0, hz1, hz2⟩ := info_parts info5
  have hn1 : (1 : Int) ≤ n := by omega
  have hn2 : (n : Int) ≤ 1048576 := by omega
  have hps : p < w.heap.size := by have := h.phi; have := h.size; omega
  have hcs : (Try.prog.info? 5).map (·.size) = some 1 := by kernel_rfl
  rcases Nat.lt_or_ge zs.length d with hlt | hge
  all_goals
    go_enter Try.func17, Try.ntmps17
    go_wp2_with (at_make; refine wpList_make_full _ rfl _ _ 23 rfl w.heap.size 5 i0 (.int .u8 0) 1 Try.underlying23 hi0 hz0 hz1 .i64 .i64 n n n rfl rfl rfl rfl ?c1 ?c2 ?c3 ?_)
    case c1 => rw [hz2]; omega
    case c2 => unfold maxLen; omega
    case c3 => omega
    intro w1 hown hg
    have HT := h
    have H := h.chg (grown_chg hg) (by simp)
    obtain ⟨a, c, hv, hcell⟩ := h.slice
    obtain ⟨c0, c1, c2, f1⟩ := cells3 H.blk
    rw [hv] at c2
    have H2 : Tp 50 5 .u8 ((w1.setCell ⟨p, 1, none⟩ (.int .i64 ((d : Int) + n))).drew) p (d + n) zs v lo hi := H.step 1 _ (by simp)
    have hcap : zs.length ≤ c := cap_ge h.row hv
    have G := row_whole hown
    obtain ⟨CS, hCS⟩ : ∃ CS, CS = ((zs.drop d).take n).map (Value.int .u8) := ⟨_, rfl⟩
    have hCl : CS.length = min n (zs.length - d) := by rw [hCS]; simp
    have hone : ∀ u ∈ CS, u.oneCell' = true := by rw [hCS]; exact ints_oneCell _ _
    have hpos : 0 < CS.length → ∃ ad, Option.map (fun x => x.add d) a = some ad ∧ ∀ (j : Nat) (u : Value), CS[j]? = some u → ((w1.setCell ⟨p, 1, none⟩ (.int .i64 ((d : Int) + n))).drew).cell? (ad.add j) = some u := by
      subst hv; rw [hCS]; exact copy_pos H2
    have HC : Hid (CS = ((zs.drop d).take n).map (Value.int .u8)) := hCS
    have G1 : ((w1.setCell ⟨p, 1, none⟩ (.int .i64 ((d : Int) + n))).drew).heap[w.heap.size]? = some (.cells ((madeCells #[Value.int .u8 0] n).toList).toArray 5 (0, 0)) :=
      (Below.heap_setCell _ _ _ _ (by simp; omega)).trans G.1
    have HP : Hid (0 < CS.length → ∃ ad, Option.map (fun x => x.add d) a = some ad ∧ ∀ (j : Nat) (u : Value), CS[j]? = some u → ((w1.setCell ⟨p, 1, none⟩ (.int .i64 ((d : Int) + n))).drew).cell? (ad.add j) = some u) := hpos
    have HG : Hid (((w1.setCell ⟨p, 1, none⟩ (.int .i64 ((d : Int) + n))).drew).heap[w.heap.size]? = some (.cells ((madeCells #[Value.int .u8 0] n).toList).toArray 5 (0, 0))) := G1
    have HL : Hid (CS.length = min n (zs.length - d)) := hCl
    clear hCS hpos G1 G hCl hv hcell
    go_wp2_with fail
    go_region_with (go_at_call 21; refine (advance_any p d n w1.drew c1 f1 (by omega) (by omega) (by omega)).mono ?_; rintro e w2 ⟨rfl, rfl⟩)
    all_goals go_wp2_with (refine wpList_copy_splice rfl (.tmp 26) (.tmp 32) 23 23 rfl 5 Try.underlying23 hcs _ _ _ _ _ _ rfl rfl w.heap.size 0 (madeCells #[Value.int .u8 0] n).toList 5 HG.out CS (copy_len HL.out (by omega)) (copy_way HL.out HP.out (by simp; try omega)) (by have := HL.out; simp [toList_madeCells_one]; omega) hone w.heap.size _ (Below.refl _ _) (Nat.le_refl _) ?_; intro w3 G3 B3)
    all_goals go_ret
    all_goals exact ⟨rfl, pads_end HT hg H2 h2 HC.out G3.out B3⟩
end Go.Proofs.Ytfandaicnolkeaa.tp
