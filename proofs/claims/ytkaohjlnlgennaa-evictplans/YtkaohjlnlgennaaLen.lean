/- Contracts of bits.Len, of Level, of the document's Level and of its MayLeaf. -/
import Derived.Test.YtkaohjlnlgennaaSml
namespace Go.Proofs.Ytkaohjlnlgennaa.st
open Go.ChangeShapes Go.WideShapes Go.ChangeAt Go.RowKit Go.Proofs.Ytkaohjlnlgennaa.hp Go.Proofs.Ytkaohjlnlgennaa.tm
set_option linter.unusedVariables false

/-- The table's byte for what is left of x behind k bits. -/
theorem tab (x y : Int) (k : Nat) (h0 : 0 ≤ x) (hx : x ≤ 18446744073709551615) (hy : y = x / 2 ^ k) (h2 : y ≤ 255) (hk : k = 0 ∨ 2 ^ k ≤ x) (hk8 : k ≤ 56) (w : World) :
    ∃ L : Int, (Instr.index 9 (.string Lib.len8tab) (.int .u8 y)).run Try.prog w = .ok (.int .u8 L) w ∧ 0 ≤ L ∧ L ≤ 8 ∧ (k : Int) + L = (Lib.bitLen x.toNat : Int) := by
  have hp0 : (0 : Int) < 2 ^ k := Int.pow_pos (by decide)
  have h3 : 0 ≤ y := by rw [hy]; exact Int.ediv_nonneg h0 (by omega)
  have hd : y.toNat = x.toNat / 2 ^ k := by
    have e : (x.toNat : Int) = x := by omega
    have e2 : ((x.toNat / 2 ^ k : Nat) : Int) = y := by
      rw [hy, Int.natCast_ediv, e, pow_cast]
    omega
  have hl : Lib.bitLen y.toNat ≤ 8 := Lib.bitLen_le8' _ h3 (by omega)
  refine ⟨Lib.len8 y, Lib.run_index_len8tab w 9 .u8 y Try.underlying9 h3 h2, ?_⟩
  rw [Lib.len8_of _ h3 (by omega)]
  refine ⟨by omega, by omega, ?_⟩
  rw [hd]
  rcases hk with rfl | hk
  · simp
  · rw [Lib.bitLen_shift k x.toNat ?_ (by omega)]
    · omega
    · have e : ((2 ^ k : Nat) : Int) ≤ (x.toNat : Int) := by rw [pow_cast]; omega
      omega

set_option maxRecDepth 100000 in
set_option maxHeartbeats 4000000 in
theorem len64_111 (x : Int) (w : World) (h0 : 0 ≤ x) (h1 : x ≤ 18446744073709551615) (q1 : 4294967296 ≤ x) (q2 : 65536 ≤ x / 4294967296) (q3 : 256 ≤ x / 4294967296 / 65536) :
    Calls Try.prog 56 #[.int .u64 x] w fun e w' => e = .returned (.int .i64 (Lib.bitLen x.toNat)) ∧ w' = w := by
  obtain ⟨L, HI, L0, L1, HL⟩ := tab x (x / 4294967296 / 65536 / 256) 56 h0 h1 (by omega) (by omega) (by right; omega) (by omega) w
  have HE : Hid (((56 : Nat) : Int) + L = (Lib.bitLen x.toNat : Int)) := HL
  clear HL
  go_enter Try.func56, Try.ntmps56
  go_wp2
  go_ret
  refine ⟨ret_int ?_, rfl⟩
  rw [← HE.out]
  first | rfl | simp

set_option maxRecDepth 100000 in
set_option maxHeartbeats 4000000 in
theorem len64_110 (x : Int) (w : World) (h0 : 0 ≤ x) (h1 : x ≤ 18446744073709551615) (q1 : 4294967296 ≤ x) (q2 : 65536 ≤ x / 4294967296) (q3 : x / 4294967296 / 65536 < 256) :
    Calls Try.prog 56 #[.int .u64 x] w fun e w' => e = .returned (.int .i64 (Lib.bitLen x.toNat)) ∧ w' = w := by
  obtain ⟨L, HI, L0, L1, HL⟩ := tab x (x / 4294967296 / 65536) 48 h0 h1 (by omega) (by omega) (by right; omega) (by omega) w
  have HE : Hid (((48 : Nat) : Int) + L = (Lib.bitLen x.toNat : Int)) := HL
  clear HL
  go_enter Try.func56, Try.ntmps56
  go_wp2
  go_ret
  refine ⟨ret_int ?_, rfl⟩
  rw [← HE.out]
  first | rfl | simp

set_option maxRecDepth 100000 in
set_option maxHeartbeats 4000000 in
theorem len64_101 (x : Int) (w : World) (h0 : 0 ≤ x) (h1 : x ≤ 18446744073709551615) (q1 : 4294967296 ≤ x) (q2 : x / 4294967296 < 65536) (q3 : 256 ≤ x / 4294967296) :
    Calls Try.prog 56 #[.int .u64 x] w fun e w' => e = .returned (.int .i64 (Lib.bitLen x.toNat)) ∧ w' = w := by
  obtain ⟨L, HI, L0, L1, HL⟩ := tab x (x / 4294967296 / 256) 40 h0 h1 (by omega) (by omega) (by right; omega) (by omega) w
  have HE : Hid (((40 : Nat) : Int) + L = (Lib.bitLen x.toNat : Int)) := HL
  clear HL
  go_enter Try.func56, Try.ntmps56
  go_wp2
  go_ret
  refine ⟨ret_int ?_, rfl⟩
  rw [← HE.out]
  first | rfl | simp

set_option maxRecDepth 100000 in
set_option maxHeartbeats 4000000 in
theorem len64_100 (x : Int) (w : World) (h0 : 0 ≤ x) (h1 : x ≤ 18446744073709551615) (q1 : 4294967296 ≤ x) (q2 : x / 4294967296 < 65536) (q3 : x / 4294967296 < 256) :
    Calls Try.prog 56 #[.int .u64 x] w fun e w' => e = .returned (.int .i64 (Lib.bitLen x.toNat)) ∧ w' = w := by
  obtain ⟨L, HI, L0, L1, HL⟩ := tab x (x / 4294967296) 32 h0 h1 (by omega) (by omega) (by right; omega) (by omega) w
  have HE : Hid (((32 : Nat) : Int) + L = (Lib.bitLen x.toNat : Int)) := HL
  clear HL
  go_enter Try.func56, Try.ntmps56
  go_wp2
  go_ret
  refine ⟨ret_int ?_, rfl⟩
  rw [← HE.out]
  first | rfl | simp

set_option maxRecDepth 100000 in
set_option maxHeartbeats 4000000 in
theorem len64_011 (x : Int) (w : World) (h0 : 0 ≤ x) (h1 : x ≤ 18446744073709551615) (q1 : x < 4294967296) (q2 : 65536 ≤ x) (q3 : 256 ≤ x / 65536) :
    Calls Try.prog 56 #[.int .u64 x] w fun e w' => e = .returned (.int .i64 (Lib.bitLen x.toNat)) ∧ w' = w := by
  obtain ⟨L, HI, L0, L1, HL⟩ := tab x (x / 65536 / 256) 24 h0 h1 (by omega) (by omega) (by right; omega) (by omega) w
  have HE : Hid (((24 : Nat) : Int) + L = (Lib.bitLen x.toNat : Int)) := HL
  clear HL
  go_enter Try.func56, Try.ntmps56
  go_wp2
  go_ret
  refine ⟨ret_int ?_, rfl⟩
  rw [← HE.out]
  first | rfl | simp

set_option maxRecDepth 100000 in
set_option maxHeartbeats 4000000 in
theorem len64_010 (x : Int) (w : World) (h0 : 0 ≤ x) (h1 : x ≤ 18446744073709551615) (q1 : x < 4294967296) (q2 : 65536 ≤ x) (q3 : x / 65536 < 256) :
    Calls Try.prog 56 #[.int .u64 x] w fun e w' => e = .returned (.int .i64 (Lib.bitLen x.toNat)) ∧ w' = w := by
  obtain ⟨L, HI, L0, L1, HL⟩ := tab x (x / 65536) 16 h0 h1 (by omega) (by omega) (by right; omega) (by omega) w
  have HE : Hid (((16 : Nat) : Int) + L = (Lib.bitLen x.toNat : Int)) := HL
  clear HL
  go_enter Try.func56, Try.ntmps56
  go_wp2
  go_ret
  refine ⟨ret_int ?_, rfl⟩
  rw [← HE.out]
  first | rfl | simp

set_option maxRecDepth 100000 in
set_option maxHeartbeats 4000000 in
theorem len64_001 (x : Int) (w : World) (h0 : 0 ≤ x) (h1 : x ≤ 18446744073709551615) (q1 : x < 4294967296) (q2 : x < 65536) (q3 : 256 ≤ x) :
    Calls Try.prog 56 #[.int .u64 x] w fun e w' => e = .returned (.int .i64 (Lib.bitLen x.toNat)) ∧ w' = w := by
  obtain ⟨L, HI, L0, L1, HL⟩ := tab x (x / 256) 8 h0 h1 (by omega) (by omega) (by right; omega) (by omega) w
  have HE : Hid (((8 : Nat) : Int) + L = (Lib.bitLen x.toNat : Int)) := HL
  clear HL
  go_enter Try.func56, Try.ntmps56
  go_wp2
  go_ret
  refine ⟨ret_int ?_, rfl⟩
  rw [← HE.out]
  first | rfl | simp

set_option maxRecDepth 100000 in
set_option maxHeartbeats 4000000 in
theorem len64_000 (x : Int) (w : World) (h0 : 0 ≤ x) (h1 : x ≤ 18446744073709551615) (q1 : x < 4294967296) (q2 : x < 65536) (q3 : x < 256) :
    Calls Try.prog 56 #[.int .u64 x] w fun e w' => e = .returned (.int .i64 (Lib.bitLen x.toNat)) ∧ w' = w := by
  obtain ⟨L, HI, L0, L1, HL⟩ := tab x (x) 0 h0 h1 (by simp) (by omega) (by exact .inl rfl) (by omega) w
  have HE : Hid (((0 : Nat) : Int) + L = (Lib.bitLen x.toNat : Int)) := HL
  clear HL
  go_enter Try.func56, Try.ntmps56
  go_wp2
  go_ret
  refine ⟨ret_int ?_, rfl⟩
  rw [← HE.out]
  first | rfl | simp

theorem len64_any (x : Int) (w : World) (h0 : 0 ≤ x) (h1 : x ≤ 18446744073709551615) :
    Calls Try.prog 56 #[.int .u64 x] w fun e w' => e = .returned (.int .i64 (Lib.bitLen x.toNat)) ∧ w' = w := by
  by_cases q1 : 4294967296 ≤ x
  · by_cases q2 : 65536 ≤ x / 4294967296
    · by_cases q3 : 256 ≤ x / 4294967296 / 65536
      · exact len64_111 x w h0 h1 q1 q2 q3
      · exact len64_110 x w h0 h1 q1 q2 (by omega)
    · by_cases q3 : 256 ≤ x / 4294967296
      · exact len64_101 x w h0 h1 q1 (by omega) q3
      · exact len64_100 x w h0 h1 q1 (by omega) (by omega)
  · by_cases q2 : 65536 ≤ x
    · by_cases q3 : 256 ≤ x / 65536
      · exact len64_011 x w h0 h1 (by omega) q2 q3
      · exact len64_010 x w h0 h1 (by omega) q2 (by omega)
    · by_cases q3 : 256 ≤ x
      · exact len64_001 x w h0 h1 (by omega) (by omega) q3
      · exact len64_000 x w h0 h1 (by omega) (by omega) (by omega)

theorem len_any (x : Int) (w : World) (h0 : 0 ≤ x) (h1 : x ≤ 18446744073709551615) :
    Calls Try.prog 44 #[.int .u64 x] w fun e w' => e = .returned (.int .i64 (Lib.bitLen x.toNat)) ∧ w' = w := by
  have H := len64_any x w h0 h1
  go_enter Try.func44, Try.ntmps44
  go_wp2_with fail
  refine H.mono ?_
  rintro e w1 ⟨rfl, rfl⟩
  go_wp2
  go_ret
  exact ⟨rfl, rfl⟩

theorem level_any (w : World) (b : Int) (h1 : b ≤ 9223372036854775807) : Calls Try.prog 24 #[.int .i64 b] w fun e w' => e = .returned (.int .i64 (lvlI b)) ∧ w' = w := by
  by_cases hb : b < 0
  · go_enter Try.func24, Try.ntmps24
    go_wp2
    go_ret
    exact ⟨ret_int (by simp [lvlI, hb]), rfl⟩
  · have hb0 : 0 ≤ b := by omega
    have H := len_any (b + 1) w (by omega) (by omega)
    have hl := Lib.bitLen_half (b + 1).toNat (by omega) (by omega)
    have hl2 := Lib.bitLen_le (b + 1).toNat 64 (by omega) (by omega)
    have HE : Hid ((Lib.bitLen (b + 1).toNat : Int) - 1 = lvlI b) := by
      show (Lib.bitLen (b + 1).toNat : Int) - 1 = lvlI b
      unfold lvlI lvl
      rw [if_neg hb, show b.toNat + 1 = (b + 1).toNat by omega]
      omega
    obtain ⟨N, hN⟩ : ∃ N : Int, (Lib.bitLen (b + 1).toNat : Int) = N := ⟨_, rfl⟩
    rw [hN] at H HE
    have n0 : 1 ≤ N := by omega
    have n1 : N ≤ 64 := by omega
    clear hl hl2 hN
    go_enter Try.func24, Try.ntmps24
    go_wp2_with fail
    refine H.mono ?_
    rintro e w1 ⟨rfl, rfl⟩
    go_wp2
    go_ret
    exact ⟨ret_int HE.out, rfl⟩

theorem lvl_bound (b : Nat) (h : b ≤ 9223372036854775807) : lvl b ≤ 64 := by
  have := Lib.bitLen_le (b + 1) 64 (by omega) (by omega)
  unfold lvl
  omega

theorem rlevel_any (w : World) (b : Int) (h1 : b ≤ 9223372036854775807) : Calls Try.prog 33 #[.int .i64 b] w fun e w' => e = .returned (.int .i64 (lvlI b)) ∧ w' = w := by
  by_cases hb : b < 0
  · go_enter Try.func33, Try.ntmps33
    go_wp2
    go_ret
    exact ⟨ret_int (by simp [lvlI, hb]), rfl⟩
  · obtain ⟨B, rfl⟩ : ∃ B : Nat, b = B := ⟨b.toNat, by omega⟩
    have HE : Hid (lvlI (B : Int) = (lvl B : Int)) := by show lvlI (B : Int) = (lvl B : Int); simp [lvlI]
    have hB := lvl_bound B (by omega)
    have hb0 : (0 : Int) ≤ B := by omega
    go_enter Try.func33, Try.ntmps33
    go_wp2
    go_loop [0, 3] (fun t n => ∃ c m : Nat, c ≤ 9223372036854775807 ∧ t = .int .i64 (c : Int) ∧ n = .int .i64 (m : Int) ∧ lvl B = lvl c + m) (fun t _ => (intOf t).toNat)
    case atStart => exact ⟨B, 0, by omega, rfl, rfl, by omega⟩
    case round =>
      obtain ⟨c, m, hc, rfl, rfl, hm⟩ := hrel
      by_cases h0 : 0 < c
      · have hi : (0 : Int) < c := by omega
        have hs := lvl_step c h0 hc
        have m1 : (m : Int) ≤ 64 := by omega
        have HM : Hid (lvl B = lvl ((c - 1) / 2) + (m + 1)) := by show lvl B = lvl ((c - 1) / 2) + (m + 1); omega
        clear hm hs hB
        go_wp2
        go_round
        case rel => exact ⟨(c - 1) / 2, m + 1, by omega, congrArg (Value.int .i64) (by omega), by go_num, HM.out⟩
        case measure => simp [intOf]; omega
      · obtain rfl : c = 0 := by omega
        rw [lvl_zero] at hm
        have HM : Hid (lvl B = m) := by show lvl B = m; omega
        clear hm hB
        go_wp2
        go_ret
        exact ⟨ret_int (by rw [HE.out, HM.out]), rfl⟩

theorem rmayLeaf_any (w : World) (h l : Int) : Calls Try.prog 36 #[.int .i64 h, .int .i64 l] w fun e w' => e = .returned (.bool (okL h l)) ∧ w' = w := by
  have HM := rmay_any w h
  rw [okL_eq]
  cases hk : okH h
  · rw [hk] at HM
    have : lvs h = 0 := by simp [lvs, hk]
    rw [this]
    go_enter Try.func36, Try.ntmps36
    go_wp2_with fail
    refine HM.mono ?_
    rintro e w1 ⟨rfl, rfl⟩
    go_wp2
    go_ret
    exact ⟨ret_bool (by simp; try omega), rfl⟩
  · rw [hk] at HM
    by_cases hl : l < 0
    · go_enter Try.func36, Try.ntmps36
      go_wp2_with fail
      refine HM.mono ?_
      rintro e w1 ⟨rfl, rfl⟩
      go_wp2
      go_ret
      exact ⟨ret_bool (by simp; omega), rfl⟩
    · have hl0 : 0 ≤ l := by omega
      rcases h_cases hk with rfl | rfl | rfl | rfl | rfl | rfl | rfl
      all_goals
        clear hk
        go_enter Try.func36, Try.ntmps36
        go_wp2_with fail
        refine HM.mono ?_
        rintro e w1 ⟨rfl, rfl⟩
        go_wp2
        go_ret
        exact ⟨ret_bool (by simp [lvs, okH, hl0]), rfl⟩

end Go.Proofs.Ytkaohjlnlgennaa.st
