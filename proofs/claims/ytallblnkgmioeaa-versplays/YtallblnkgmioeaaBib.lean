/- The document's BitBytes. -/
import Derived.Test.YtallblnkgmioeaaFli
namespace Go.Proofs.Ytallblnkgmioeaa.st
open Go.ChangeShapes Go.WideShapes Go.ChangeAt Go.RowKit Go.Proofs.Ytallblnkgmioeaa.hp Go.Proofs.Ytallblnkgmioeaa.bt
set_option linter.unusedVariables false
set_option linter.unusedSimpArgs false

/-- Bytes in memory that is new since w; nothing old was written. -/
def NewB (w : World) (zs : List Int) (v : Value) (w' : World) : Prop := w'.ownsRow w.heap.size 5 1 v zs.length (zs.map (Value.int .u8)) ∧ Chg no w w'

theorem NewB.lies {w w' : World} {zs : List Int} {v : Value} (h : NewB w zs v w') : Lies (fun k => w.heap.size ≤ k ∧ k < w'.heap.size) w' v (zs.map (Value.int .u8)) := Lies.of_owns h.1 h.1.lt
theorem NewB.shape {w w' : World} {zs : List Int} {v : Value} (h : NewB w zs v w') : ∃ a c, v = .slice a zs.length c := owns_shape h.1
theorem NewB.chg {w w1 w2 : World} {zs : List Int} {v : Value} (h : NewB w zs v w1) (k : Chg no w1 w2) : NewB w zs v w2 := ⟨k.owns h.1 (fun _ _ h => h), h.2.then k⟩
theorem NewB.drewN {w w1 : World} {zs : List Int} {v : Value} (h : NewB w zs v w1) (n : Nat) : NewB w zs v (w1.drewN n) := h.chg ((Chg.refl no w1).drewN n)

theorem NewB.set {w w' : World} {g n c k : Nat} {zs : List Int} (h : NewB w zs (.slice (some ⟨g, 0, none⟩) n c) w') (u : Int) : NewB w (zs.set k u) (.slice (some ⟨g, 0, none⟩) n c) (w'.setCell ⟨g, k, none⟩ (.int .u8 u)) := by
  have hn : n = zs.length := by
    obtain ⟨a, c', hv⟩ := h.shape
    cases hv
    rfl
  subst hn
  have := h.1.stored k (.int .u8 u)
  refine ⟨?_, h.2.setCell _ _ (.inr (h.1.lt g rfl).1)⟩
  rw [List.length_set, List.map_set]
  exact this.1

theorem or_low : ∀ (t : Fin 8) (B : Fin 128), B.val < 2 ^ t.val → B.val ||| 2 ^ t.val = B.val + 2 ^ t.val := by decide +kernel

theorem or_bit (t B : Nat) (V : Int) (ht : t < 8) (hB : B < 128) (hBt : B < 2 ^ t) (hV : V = 0 ∨ V = 1) : bits .or .u8 (B : Int) (wrap64 (V * 2 ^ t) % 256) = (B : Int) + V * 2 ^ t := by
  have hl := or_low ⟨t, ht⟩ ⟨B, hB⟩ hBt
  simp only at hl
  rcases hV with rfl | rfl
  · have e : wrap64 (0 * 2 ^ t) % 256 = ((0 : Nat) : Int) := by
      rw [Int.zero_mul]
      unfold wrap64
      omega
    rw [e, u8_or_nat B 0 (by omega) (by omega), Nat.or_zero, Int.zero_mul]
    omega
  · have h2 : ((2 : Int) ^ t) = ((2 ^ t : Nat) : Int) := by simp
    have h3 : 2 ^ t ≤ 2 ^ 7 := Nat.pow_le_pow_right (by omega) (by omega)
    have e : wrap64 (1 * 2 ^ t) % 256 = ((2 ^ t : Nat) : Int) := by
      rw [Int.one_mul, h2]
      unfold wrap64
      omega
    rw [e, u8_or_nat B (2 ^ t) (by omega) (by omega), hl, Int.one_mul, h2]
    omega

theorem tdiv_nat (a n : Nat) : ((a : Int)).tdiv (n : Int) = ((a / n : Nat) : Int) := rfl

theorem bitBytes_any {J : Nat → Prop} (w : World) (v : Value) (x : List Int) (hv : Lies J w v (x.map (Value.int .i64))) (hx : Bin x) (hl : x.length ≤ 100000) :
    Calls Try.prog 19 #[v] w fun e w' => ∃ v', e = .returned v' ∧ NewB w (bytesOf x) v' w' := by
  obtain ⟨i0, hi, hz0, hz1, hz2⟩ := info_parts info5
  obtain ⟨a, c, rfl, _⟩ := hv.slice
  simp only [List.length_map] at hv ⊢
  have HV : Hid (∀ W, Chg no w W → Lies J W (.slice a x.length c) (x.map (Value.int .i64))) := fun W k => hv.chg k (fun _ _ h => h)
  obtain ⟨n, hn⟩ : ∃ n, x.length = n := ⟨_, rfl⟩
  obtain ⟨N, hN⟩ : ∃ N, (n + 7) / 8 = N := ⟨_, rfl⟩
  have HN : Hid (x.length = n) := hn
  have HNN : Hid ((n + 7) / 8 = N) := hN
  have hNi : ((n : Int) + 7).tdiv 8 = (N : Int) := by
    have := tdiv_nat (n + 7) 8
    rw [hN] at this
    exact this
  rw [hn] at hv hl HV ⊢
  have hni : (n : Int) ≤ 100000 := by omega
  have hN2 : N ≤ 100000 := by omega
  clear hn hv hN
  go_enter Try.func19, Try.ntmps19
  go_wp2_with (at_make; refine wpList_make_full _ rfl _ _ 36 rfl w.heap.size 5 i0 (.int .u8 0) 1 Try.underlying36 hi hz0 hz1 .i64 .i64 N N N rfl rfl rfl rfl ?c1 ?c2 ?c3 ?_)
  case c1 => rw [hz2]; omega
  case c2 => unfold maxLen; omega
  case c3 => omega
  intro w2 hown hg
  have HB0 : Hid (NewB w (bytesTo x 0) (.slice (some ⟨w.heap.size, 0, none⟩) N N) w2) := by
    refine ⟨?_, (Chg.refl no w).grown hg (by simp)⟩
    rw [bytesTo_zero, HN.out, HNN.out, List.length_replicate, List.map_replicate]
    rw [toList_madeCells_one] at hown
    exact hown
  obtain ⟨g, hgg⟩ : ∃ g, w.heap.size = g := ⟨_, rfl⟩
  rw [hgg] at HB0 ⊢
  clear hown hg
  go_wp2_with fail
  go_loopw [4] (fun iv wr => ∃ i : Nat, i ≤ n ∧ iv = .int .i64 (i : Int) ∧ NewB w (bytesTo x i) (.slice (some ⟨g, 0, none⟩) N N) wr) (fun iv _ => n - (intOf iv).toNat)
  case atStart => exact ⟨0, by omega, rfl, HB0.out⟩
  case round =>
    clear HB0
    obtain ⟨i, hi', rfl, hB⟩ := hrel
    have HB : Hid (NewB w (bytesTo x i) (.slice (some ⟨g, 0, none⟩) N N) wr) := hB
    by_cases hin : i < n
    · have hii : (i : Int) < n := by omega
      obtain ⟨y, rfl, e0⟩ := lies_at (HV.out wr hB.2) i (by rw [HN.out]; exact hin)
      have hbit : x.getD i 0 = 0 ∨ x.getD i 0 = 1 := hx _ (getD_mem (by rw [HN.out]; exact hin))
      obtain ⟨b0, b1, b2⟩ := byt_this x hx i (by rw [HN.out]; exact hin)
      have hnx := bytesTo_next x hx i (by rw [HN.out]; exact hin)
      obtain ⟨k, hk⟩ : ∃ k, i / 8 = k := ⟨_, rfl⟩
      obtain ⟨t, ht⟩ : ∃ t, i % 8 = t := ⟨_, rfl⟩
      have hkN : k < N := by have := HNN.out; omega
      have hkNi : (k : Int) < N := by omega
      have ht8 : t < 8 := by omega
      have hq : (i : Int).tdiv 8 = (k : Int) := by
        have := tdiv_nat i 8
        rw [hk] at this
        exact this
      have hr : (i : Int).tmod 8 = (t : Int) := by
        rw [← ht]
        rfl
      rw [hk, ht] at b1
      rw [hk] at b0
      rw [hk, ht] at hnx
      obtain ⟨B, hBB⟩ : ∃ B : Nat, byt x i k = B := ⟨(byt x i k).toNat, by omega⟩
      have hget : (bytesTo x i)[k]? = some (B : Int) := by
        have := bytesTo_get x i k (by rw [HN.out, HNN.out]; exact hkN)
        rw [hBB, List.getD_eq_getElem?_getD, List.getElem?_eq_getElem (by rw [bytesTo_len, HN.out, HNN.out]; exact hkN)] at this
        rw [List.getElem?_eq_getElem (by rw [bytesTo_len, HN.out, HNN.out]; exact hkN)]
        simpa using this
      rw [hBB] at b1 hnx
      have o := hB.1
      rw [bytesTo_len, HN.out, HNN.out] at o
      obtain ⟨g', e, _, o2, o3⟩ := owns_at (k := k) (u := .int .u8 (B : Int)) o (by rw [List.getElem?_map, hget]; rfl)
      cases e
      obtain ⟨V, hV⟩ : ∃ V, x.getD i 0 = V := ⟨_, rfl⟩
      rw [hV] at e0 hbit hnx
      have HNX : Hid (bytesTo x (i + 1) = (bytesTo x i).set k ((B : Int) + V * 2 ^ t)) := hnx
      have ht0 : ¬ (t : Int) < 0 := by omega
      have hti : (t : Int) ≤ 7 := by omega
      have hBt : B < 128 ∧ B < 2 ^ t := by
        have h1 : ((2 : Int) ^ t) = ((2 ^ t : Nat) : Int) := by simp
        rw [h1] at b1
        have h2 : B < 2 ^ t := by omega
        have h3 : 2 ^ t ≤ 2 ^ 7 := Nat.pow_le_pow_right (by omega) (by omega)
        exact ⟨by omega, h2⟩
      clear b0 b2 hnx hget o hBB hV hB b1
      go_wp2_with fail
      have hor := or_bit t B V ht8 hBt.1 hBt.2 hbit
      have HOR : Hid (bits .or .u8 (B : Int) (wrap64 (V * 2 ^ t) % 256) = (B : Int) + V * 2 ^ t) := hor
      clear hor hbit
      go_region
      go_wp2
      go_roundw
      case rel => exact ⟨i + 1, by omega, by go_num, by rw [HOR.out, HNX.out]; exact (HB.out.set _).chg (Chg.refl no _).drew⟩
      case measure => simp [intOf]; omega
    · obtain rfl : i = n := by omega
      have hii : ¬ ((i : Int) < i) := by omega
      go_wp2
      go_ret
      have e : bytesOf x = bytesTo x i := by rw [← HN.out]; rfl
      rw [e]
      exact ⟨_, rfl, HB.out⟩

end Go.Proofs.Ytallblnkgmioeaa.st
