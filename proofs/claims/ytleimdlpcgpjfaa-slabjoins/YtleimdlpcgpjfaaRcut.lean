/- The contract of the document's Cut. -/
import Derived.Test.YtleimdlpcgpjfaaCut
namespace Go.Proofs.Ytleimdlpcgpjfaa.st
open Go.ChangeShapes Go.WideShapes Go.ChangeAt Go.RowKit Go.Proofs.Ytleimdlpcgpjfaa.hp Go.Proofs.Ytleimdlpcgpjfaa.dg
set_option linter.unusedVariables false

theorem sl_one (g s : Nat) : (sl g s).oneCell' = true := rfl

set_option maxHeartbeats 4000000 in
theorem rcut_in {J : Nat → Prop} (w : World) (a : Option Addr) (c : Nat) (zs : List Int) (s : Nat) (hv : Lies J w (.slice a zs.length c) (zs.map (Value.int .u8))) (hc : zs.length ≤ c) (hl : zs.length ≤ 100000) (h1 : 1 ≤ s) (h2 : s ≤ 100000) (h0 : 1 ≤ zs.length) :
    Calls Try.prog 25 #[.slice a zs.length c, .int .i64 s] w fun e w' => ∃ v, e = .returned v ∧ Pcs w' (fun k => w.heap.size ≤ k ∧ k < w'.heap.size) v zs s (ncell zs.length s) ∧ Chg no w w' := by
  obtain ⟨i0, hi0, hz0, hz1, hz2⟩ := info_parts info26
  have HC := fun w => rcells_in w zs.length s h0 h1 (by omega)
  have hN := ncell_le zs.length s
  have HN : Hid (∀ j, j < ncell zs.length s → j * s < zs.length) := fun j hj => (ncell_lt _ _ _ hj).1
  obtain ⟨n, hn⟩ : ∃ n, ncell zs.length s = n := ⟨_, rfl⟩
  rw [hn] at HC hN HN ⊢
  have i1 : (1 : Int) ≤ s := by omega
  have i2 : (s : Int) ≤ 100000 := by omega
  have i3 : (n : Int) ≤ 100000 := by omega
  have HV : Hid (Lies J w (.slice a zs.length c) (zs.map (Value.int .u8))) := hv
  obtain ⟨L, hL⟩ : ∃ L, zs.length = L := ⟨_, rfl⟩
  have HL : Hid (zs.length = L) := hL
  rw [hL] at HC hN HN hc hl h0 ⊢
  clear hv hn hL
  have i4 : (L : Int) ≤ 100000 := by omega
  have i5 : (L : Int) ≤ c := by omega
  go_enter Try.func25, Try.ntmps25
  have B0 : Hid (RefAt w zs s 0 (.slice none 0 0) w) := ⟨fun _ => 0, World.ownsRow_nil _ _ _ _, fun k hk => by simp [Value.ownBlock] at hk, fun i hi => by omega, Chg.refl _ _⟩
  go_wp2_with fail
  go_loopw [5, 6] (fun v i wr => ∃ j : Nat, j ≤ n ∧ i = .int .i64 (j : Int) ∧ RefAt w zs s j v wr) (fun _ i _ => n - (intOf i).toNat)
  case atStart => exact ⟨0, by omega, rfl, B0.out⟩
  case round =>
    clear B0
    obtain ⟨j, hj, rfl, hB⟩ := hrel
    have HCr := HC wr
    clear HC
    obtain ⟨va, vc, hva⟩ : ∃ va vc, u5 = .slice va j vc := by
      obtain ⟨gf, b1, _⟩ := hB
      exact owns_shape b1
    subst hva
    by_cases hjn : j < n
    · have hji : (j : Int) < n := by omega
      have hjs := HN.out j hjn
      have m0 : (0 : Int) ≤ (j : Int) * (s : Int) := Int.mul_nonneg (by omega) (by omega)
      have m1 : (j : Int) * (s : Int) < L := by
        have : ((j * s : Nat) : Int) < L := by omega
        simpa using this
      obtain ⟨H, hH, hH1, hH2, hH3⟩ : ∃ H : Nat, (if (j : Int) * (s : Int) + (s : Int) < (L : Int) then (j : Int) * (s : Int) + (s : Int) else (L : Int)) = H ∧ H ≤ L ∧ j * s ≤ H ∧ H = min (j * s + s) L := by
        have e : (j : Int) * (s : Int) = ((j * s : Nat) : Int) := by simp
        rw [e]
        by_cases h : ((j * s : Nat) : Int) + (s : Int) < (L : Int)
        · exact ⟨j * s + s, by rw [if_pos h]; omega, by omega, by omega, by omega⟩
        · exact ⟨L, by rw [if_neg h], by omega, by omega, by omega⟩
      have hHi : (H : Int) ≤ L := by omega
      have hHc : (H : Int) ≤ c := by omega
      have hHj : (j : Int) * (s : Int) ≤ H := by
        have : ((j * s : Nat) : Int) ≤ H := by omega
        simpa using this
      have HF : Calls Try.prog 17 #[.slice (a.map (fun x => x.add (j * s))) (H - j * s) (c - j * s), .int .i64 s] wr fun e w' => e = .returned (.slice (some ⟨wr.heap.size, 0, none⟩) s s) ∧
          w'.heap[wr.heap.size]? = some (.cells ((piece zs s j).map (Value.int .u8)).toArray 5 (0, 0)) ∧ Chg no wr w' := by
        obtain ⟨gf, b1, b2, b3, b4⟩ := hB
        have q := lies_sub (lo := j * s) (hi := H) (HV.out.chg b4 (fun _ _ h => h)) hH2 (by simp; rw [HL.out]; omega)
        rw [← List.map_drop, ← List.map_take, hH3] at q
        have q2 := sub_piece zs (j * s) s (by rw [HL.out]; omega)
        rw [HL.out] at q2
        rw [q2, ← hH3] at q
        exact rfill_any wr _ _ s q (by simp; omega) (by omega)
      have HB : Hid (RefAt w zs s j (.slice va j vc) wr) := hB
      clear hB hH3
      go_wp2_with fail
      refine HCr.mono ?_
      rintro e w2 ⟨rfl, rfl⟩
      go_wp2_with fail
      refine HF.mono ?_
      rintro e w3 ⟨rfl, g3, k3⟩
      obtain ⟨gf, b1, b2, b3, b4⟩ := HB.out
      have kA : Chg no w3 (w3.alloc (.cells #[sl w2.heap.size s] 26)) := (Chg.refl no w3).alloc _
      obtain ⟨X, hX⟩ : ∃ X, (List.range j).map (fun i => sl (gf i) s) = X := ⟨_, rfl⟩
      rw [hX] at b1
      have HO : Hid ((w3.alloc (.cells #[.slice (some ⟨w2.heap.size, 0, none⟩) s s] 26)).ownsRow 0 26 1 (.slice va j vc) j X) := (k3.then kA).owns b1 (fun _ _ h => h)
      have HL2 : Hid (Lies (fun b => b = w3.heap.size) (w3.alloc (.cells #[.slice (some ⟨w2.heap.size, 0, none⟩) s s] 26)) (.slice (some ⟨w3.heap.size, 0, none⟩) 1 1) [.slice (some ⟨w2.heap.size, 0, none⟩) s s]) := lies_new [.slice (some ⟨w2.heap.size, 0, none⟩) s s] 26
      have H1 : ∀ u ∈ ([.slice (some ⟨w2.heap.size, 0, none⟩) s s] : List Value), u.oneCell' = true := by
        intro u hu
        simp at hu
        subst hu
        rfl
      have HS : Hid (∀ v5 w5, Grew 26 (w3.alloc (.cells #[.slice (some ⟨w2.heap.size, 0, none⟩) s s] 26)) w5 (.slice va j vc) v5 j X [.slice (some ⟨w2.heap.size, 0, none⟩) s s] → RefAt w zs s (j + 1) v5 w5) := by
        intro v5 w5 gr
        refine HB.out.step g3 k3 kA (fun gf' o' => ?_)
        have : X = (List.range j).map fun i => sl (gf' i) s := owns_same b1 o'
        rw [← this]
        exact gr
      clear HF HCr b1 b2 b3 b4 g3 hX kA
      go_wp2_with (at_builtin; refine wpList_append_grew rfl _ _ 49 rfl 26 i0 (.slice none 0 0) 24 Try.underlying49 hi0 hz0 hz1 hz2 rfl (.slice va j vc) j X rfl HO.out (fun b => b = w3.heap.size) (.slice (some ⟨w3.heap.size, 0, none⟩) 1 1) [.slice (some ⟨w2.heap.size, 0, none⟩) s s] rfl HL2.out H1 ?c1 ?c2 ?_)
      case c1 => simp; unfold maxLen; omega
      case c2 => simp; omega
      intro v5 w5 gr
      have y5 := HS.out _ _ gr
      obtain ⟨a5, c5, rfl⟩ := owns_shape gr.own
      clear HS gr
      go_wp2
      go_roundw
      case rel => exact ⟨j + 1, by omega, by go_num, y5⟩
      case measure => simp [intOf]; try omega
    · obtain rfl : j = n := by omega
      have hji : (j : Int) ≤ (j : Int) := by omega
      go_wp2_with fail
      refine HCr.mono ?_
      rintro e w2 ⟨rfl, rfl⟩
      go_wp2
      go_ret
      obtain ⟨gf, b1, b2, b3, b4⟩ := hB
      refine ⟨_, rfl, ⟨gf, ?_, fun i hi => ?_⟩, b4⟩
      · exact Lies.of_owns b1 (fun k hk => ⟨b2 k hk, (b1.lt k hk).2⟩)
      · obtain ⟨q1, q2, q3⟩ := b3 i hi
        exact ⟨⟨q1, lt_of_block q3⟩, q3⟩

theorem rcut_out (w : World) (a : Option Addr) (c : Nat) (zs : List Int) (s : Int) (hh : zs.length = 0 ∨ s < 1) :
    Calls Try.prog 25 #[.slice a zs.length c, .int .i64 s] w fun e w' => ∃ v, e = .returned v ∧ Pcs w' (fun k => w.heap.size ≤ k ∧ k < w'.heap.size) v zs s.toNat 0 ∧ Chg no w w' := by
  have HC := rcells_out w zs.length s (by omega)
  obtain ⟨L, hL⟩ : ∃ L, zs.length = L := ⟨_, rfl⟩
  rw [hL] at HC ⊢
  clear hh hL
  go_enter Try.func25, Try.ntmps25
  go_wp2_with fail
  go_loopw [5, 6] (fun v i wr => v = .slice none 0 0 ∧ i = .int .i64 0 ∧ wr = w) (fun _ i _ => 0)
  case atStart => exact ⟨rfl, rfl, rfl⟩
  case round =>
    obtain ⟨rfl, rfl, rfl⟩ := hrel
    go_wp2_with fail
    refine HC.mono ?_
    rintro e w1 ⟨rfl, rfl⟩
    go_wp2
    go_ret
    exact ⟨_, rfl, pcs_nil w1 w1 _ _ zs _ (.inl rfl), Chg.refl _ _⟩

theorem rcut_any {J : Nat → Prop} (w : World) (a : Option Addr) (c : Nat) (zs : List Int) (s : Int) (hv : Lies J w (.slice a zs.length c) (zs.map (Value.int .u8))) (hc : zs.length ≤ c) (hl : zs.length ≤ 100000) (hs : s ≤ 100000) :
    Calls Try.prog 25 #[.slice a zs.length c, .int .i64 s] w fun e w' => ∃ v, e = .returned v ∧ Pcs w' (fun k => w.heap.size ≤ k ∧ k < w'.heap.size) v zs s.toNat (ncell zs.length s.toNat) ∧ Chg no w w' := by
  by_cases hh : zs.length = 0 ∨ s < 1
  · rw [ncell_zero _ _ hh]
    exact rcut_out w a c zs s hh
  · obtain ⟨k, rfl⟩ := Int.eq_ofNat_of_zero_le (show 0 ≤ s by omega)
    exact rcut_in w a c zs k hv hc hl (by omega) (by omega) (by omega)

end Go.Proofs.Ytleimdlpcgpjfaa.st
