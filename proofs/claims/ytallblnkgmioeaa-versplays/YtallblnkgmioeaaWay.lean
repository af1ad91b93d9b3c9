/- What the laws of stage 12 ask of the program: contracts over any object 'Bt F w v x' (v shows the bits x, in the blocks F). -/
import Derived.Test.YtallblnkgmioeaaPrb
import Derived.Test.YtallblnkgmioeaaBtf
import Derived.Test.YtallblnkgmioeaaTwi
import Derived.Test.YtallblnkgmioeaaOpr
namespace Go.Proofs.Ytallblnkgmioeaa.st
open Go.ChangeShapes Go.WideShapes Go.ChangeAt Go.RowKit Go.Proofs.Ytallblnkgmioeaa.hp Go.Proofs.Ytallblnkgmioeaa.bt
set_option linter.unusedVariables false
set_option linter.unusedSimpArgs false

/-- The bit of a bucket; -1 of one that is none. -/
def liveI (x : List Int) (b : Int) : Int := if 0 ≤ b ∧ b < (x.length : Int) then x.getD b.toNat 0 else -1

structure Ways (Bt : (Nat → Prop) → World → Value → List Int → Prop) : Prop where
  keep : ∀ {F G : Nat → Prop} {w w' : World} {v : Value} {x : List Int}, Bt F w v x → Chg G w w' → (∀ k, F k → ¬ G k) → Bt F w' v x
  facts : ∀ {F : Nat → Prop} {w : World} {v : Value} {x : List Int}, Bt F w v x → Bin x ∧ 1 ≤ x.length ∧ x.length ≤ 127 ∧ (∃ p, v = .pointer (some p)) ∧ ∀ k, F k → k < w.heap.size
  new0 : ∀ (w : World) (n : Int), mayN n = false → Calls Try.prog 9 #[.int .i64 n] w fun e w' => e = .returned (.pointer none) ∧ Chg no w w'
  new1 : ∀ (w : World) (n : Nat), mayN n = true → Calls Try.prog 9 #[.int .i64 n] w fun e w' => ∃ p F, e = .returned (.pointer (some p)) ∧ Bt F w' (.pointer (some p)) (List.replicate n 0) ∧ (∀ k, F k → w.heap.size ≤ k) ∧ Chg no w w'
  copy : ∀ {F : Nat → Prop} {w : World} {v : Value} {x : List Int}, Bt F w v x → Calls Try.prog 11 #[v] w fun e w' => ∃ p F', e = .returned (.pointer (some p)) ∧ Bt F' w' (.pointer (some p)) x ∧ (∀ k, F' k → w.heap.size ≤ k) ∧ Chg no w w'
  flip : ∀ {F K : Nat → Prop} {w : World} {v : Value} {x l : List Int} {b : Option Addr} {d : Nat}, Bt F w v x → Lies K w (.slice b l.length d) (l.map (Value.int .i64)) → (∀ k, K k → ¬ F k) → l.length ≤ d → l.length ≤ 100000 → Calls Try.prog 13 #[v, .slice b l.length d] w fun e w' => e = .returned (.bool (okF x.length l)) ∧ Bt F w' v (flipI x l).1 ∧ Chg F w w'
  len : ∀ {F : Nat → Prop} {w : World} {v : Value} {x : List Int}, Bt F w v x → Calls Try.prog 14 #[v] w fun e w' => e = .returned (.int .i64 (x.length : Int)) ∧ w' = w
  live : ∀ {F : Nat → Prop} {w : World} {v : Value} {x : List Int} (b : Int), Bt F w v x → Calls Try.prog 22 #[v, .int .i64 b] w fun e w' => e = .returned (.int .i64 (liveI x b)) ∧ ∃ n, w' = w.drewN n
  bytes : ∀ {F : Nat → Prop} {w : World} {v : Value} {x : List Int}, Bt F w v x → Calls Try.prog 18 #[v] w fun e w' => ∃ v', e = .returned v' ∧ NewB w (bytesOf x) v' w'
  parse : ∀ {J : Nat → Prop} (w : World) (n : Int) {v : Value} {b : List Int}, Lies J w v (b.map (Value.int .u8)) → Bytes b → b.length ≤ 100000 → Calls Try.prog 20 #[.int .i64 n, v] w fun e w' => ∃ pv F, e = .returned (.tuple #[pv, .int .i64 (parseI n b).2]) ∧ ((parseI n b).2 = 0 → Bt F w' pv (parseI n b).1 ∧ ∀ k, F k → w.heap.size ≤ k) ∧ ((parseI n b).2 ≠ 0 → pv = .pointer none) ∧ Chg no w w'

theorem ints_one (xs : List Int) : ∀ u ∈ xs.map (Value.int .i64), u.oneCell' = true := by
  intro u hu
  obtain ⟨x, _, rfl⟩ := List.mem_map.1 hu
  rfl

theorem take_all {α : Type} (l : List α) (n : Nat) (h : l.length = n) : l.take n = l := by rw [← h, List.take_length]

variable {Bt : (Nat → Prop) → World → Value → List Int → Prop}

set_option maxHeartbeats 2000000 in
theorem bits_any (V : Ways Bt) {F : Nat → Prop} (w : World) (v : Value) (x : List Int) (h : Bt F w v x) :
    Calls Try.prog 16 #[v] w fun e w' => ∃ v', e = .returned v' ∧ New w x v' w' := by
  obtain ⟨i0, hi, hz0, hz1, hz2⟩ := info_parts info3
  obtain ⟨_, _, hx, ⟨p, rfl⟩, _⟩ := V.facts h
  have HLN : Hid (∀ W, Chg no w W → Calls Try.prog 14 #[.pointer (some p)] W fun e w' => e = .returned (.int .i64 (x.length : Int)) ∧ w' = W) := fun W k => V.len (V.keep h k (fun _ _ h => h))
  have HLV : Hid (∀ W (i : Nat), Chg no w W → i < x.length → Calls Try.prog 22 #[.pointer (some p), .int .i64 (i : Int)] W fun e w' => e = .returned (.int .i64 (x.getD i 0)) ∧ Chg no w w') := fun W i k hi => by
    refine (V.live (i : Int) (V.keep h k (fun _ _ h => h))).mono ?_
    rintro e w' ⟨rfl, n, rfl⟩
    have e : liveI x (i : Int) = x.getD i 0 := by
      unfold liveI
      rw [if_pos ⟨by omega, by omega⟩, Int.toNat_natCast]
    rw [e]
    exact ⟨rfl, k.drewN n⟩
  have HLV2 : Hid (∀ W (i : Nat), Chg no w W → i < x.length → Calls Try.prog 22 #[.pointer (some p), .int .i64 (i : Int)] W fun e w' => e = .returned (.int .i64 (x.getD i 0)) ∧ ∃ n, w' = W.drewN n) := fun W i k hi => by
    refine (V.live (i : Int) (V.keep h k (fun _ _ h => h))).mono ?_
    rintro e w' ⟨rfl, n, rfl⟩
    have e : liveI x (i : Int) = x.getD i 0 := by
      unfold liveI
      rw [if_pos ⟨by omega, by omega⟩, Int.toNat_natCast]
    rw [e]
    exact ⟨rfl, n, rfl⟩
  obtain ⟨n, hn⟩ : ∃ n, x.length = n := ⟨_, rfl⟩
  have HN : Hid (x.length = n) := hn
  simp only [hn] at hx HLN HLV HLV2 ⊢
  have hni : (n : Int) ≤ 127 := by omega
  clear hn h
  go_enter Try.func16, Try.ntmps16
  go_wp2_with fail
  go_loopw [3, 4] (fun lv i wr => ∃ k : Nat, k ≤ n ∧ i = .int .i64 (k : Int) ∧ New w (x.take k) lv wr) (fun _ i _ => n - (intOf i).toNat)
  case atStart => exact ⟨0, by omega, rfl, New.nil w⟩
  case round =>
    obtain ⟨k, hk, rfl, hN⟩ := hrel
    obtain ⟨xa, xc, rfl⟩ := hN.shape
    have HL1 := HLN.out wr hN.2
    by_cases hkn : k < n
    · have hki : (k : Int) < n := by omega
      have HV1 := HLV2.out wr k hN.2 hkn
      have hsn := take_next x 0 k (by rw [HN.out]; exact hkn)
      obtain ⟨B, hB⟩ : ∃ B, x.getD k 0 = B := ⟨_, rfl⟩
      obtain ⟨T, hT⟩ : ∃ T, x.take k = T := ⟨_, rfl⟩
      have hTk : T.length ≤ k := by rw [← hT]; exact List.length_take_le _ _
      rw [hB] at HV1 hsn
      rw [hT] at hN hsn ⊢
      have HNT : Hid (New w T (.slice xa T.length xc) wr) := hN
      have HE : Hid (x.take (k + 1) = T ++ [B]) := hsn
      clear hN hsn hB hT
      go_wp2_with fail
      refine HL1.mono ?_
      rintro e w1 ⟨rfl, rfl⟩
      clear HL1
      go_wp2_with fail
      refine HV1.mono ?_
      rintro e w2 ⟨rfl, q, hw2⟩
      have HN2 : Hid (New w T (.slice xa T.length xc) w2) := by
        show New _ _ _ _
        rw [hw2]
        exact HNT.out.drewN q
      have HW : Hid (Lies (fun _ => True) (w2.alloc (.cells #[.int .i64 B] 3)) (.slice (some ⟨w2.heap.size, 0, none⟩) 1 1) ([B].map (Value.int .i64))) := .inr ⟨_, 1, rfl, fun _ => trivial, fun j u hu => news_at (xs := [.int .i64 B]) j u hu⟩
      clear HNT HV1 hw2
      go_wp2_with (at_builtin; refine wpList_append_grew rfl _ _ 24 rfl 3 i0 (.int .i64 0) 8 Try.underlying24 hi hz0 hz1 hz2 rfl (.slice xa T.length xc) T.length (T.map (Value.int .i64)) rfl (owns_base (HN2.out.chg ((Chg.refl no w2).alloc _)).1 (Nat.zero_le _)) (fun _ => True) (.slice (some ⟨w2.heap.size, 0, none⟩) 1 1) ([B].map (Value.int .i64)) rfl HW.out (ints_one _) (by simp; unfold maxLen; omega) (by simp; omega) ?_; intro v5 w5 G5)
      have HN5 : Hid (New w (T ++ [B]) v5 w5) := (HN2.out.chg ((Chg.refl no w2).alloc _)).grew G5 rfl
      obtain ⟨a5, c5, rfl⟩ := HN5.out.shape
      clear G5 HN2 HW
      go_wp2
      go_roundw
      case rel => exact ⟨k + 1, by omega, by go_num, by rw [HE.out]; exact HN5.out⟩
      case measure => simp [intOf]; omega
    · obtain rfl : k = n := by omega
      have hki : ¬ ((k : Int) < k) := by omega
      rw [take_all x k HN.out] at hN ⊢
      have HZ : Hid (New w x (.slice xa x.length xc) wr) := hN
      clear hN
      go_wp2_with fail
      refine HL1.mono ?_
      rintro e w1 ⟨rfl, rfl⟩
      go_wp2
      go_ret
      exact ⟨_, rfl, HZ.out⟩

end Go.Proofs.Ytallblnkgmioeaa.st
