/-
  Proved: for every two numbers after and n the law CellsArmed returns true; no condition.
-/
import Derived.Test.YtjmdjadnllakpaaRows
import Derived.Test.YtjmdjadnllakpaaFirst
import Derived.ChangeOld
import Derived.WalkKit
import Derived.ProofKit
import Derived.OpenShut
import Derived.ShutString
namespace Go.Proofs.Ytjmdjadnllakpaa.cellsArmed
open Go.ChangeShapes Go.WideShapes Go.ChangeAt Go.RowKit Go.Proofs.Ytjmdjadnllakpaa.hp Go.Proofs.Ytjmdjadnllakpaa.md Go.Proofs.Ytjmdjadnllakpaa.st
open Go.ChangeMaps (open_string shut_string)
set_option linter.unusedVariables false      -- a walk need not use every 'w<i>' (that an integer argument fits its kind)

theorem own : ownKnob Try.prog.godebug = none := by kernel_rfl


theorem early (a0 a1 : Int) (w : World) (hh : a0 < 1 ∨ 100 < a0 ∨ a1 < 0 ∨ 200 < a1) :
    Calls Try.prog 5 #[.int .i64 a0, .int .i64 a1] w fun e w' => e = .returned (.bool true) ∧ Below w.heap.size w w' := by
  have hc : (a0 < 1) ∨ (1 ≤ a0 ∧ 100 < a0) ∨ (1 ≤ a0 ∧ a0 ≤ 100 ∧ a1 < 0) ∨ (1 ≤ a0 ∧ a0 ≤ 100 ∧ 0 ≤ a1 ∧ 200 < a1) := by omega
  clear hh
  rcases hc with h1 | ⟨h1, h2⟩ | ⟨h1, h2, h3⟩ | ⟨h1, h2, h3, h4⟩
  all_goals
    go_enter Try.func5, Try.ntmps5
    go_wp2_with fail
    refine (first_any _).mono ?_
    rintro e w1 ⟨rfl, k1⟩
    go_wp2_with fail
    refine (new_in 3 2 (by omega) (by omega) (by omega) (by omega)).mono ?_
    rintro e w2 ⟨p, rfl, s2, k2⟩
    go_wp2_with fail
    refine (first_any _).mono ?_
    rintro e w3 ⟨rfl, k3⟩
    go_wp2
    go_ret
    exact ⟨rfl, ((k1.then k2).then k3).below⟩

/-- The store behind k operations, the n-th of which falls. -/
structure At (n k : Nat) (m : Mod) : Prop where
  V : m.V.length = 3
  sz : m.sz = 2
  kp : m.kp = []
  ops : m.ops = min k n
  up : m.up = decide (k < n)
  arm : k < n → m.arm = n - k

theorem At.fails {n k : Nat} {m : Mod} (h : At n k m) : m.fails = decide (n ≤ k + 1) := by
  unfold Mod.fails
  rw [h.up]
  by_cases hk : k < n
  · rw [h.arm hk]
    by_cases h2 : n ≤ k + 1
    · have : n - k = 1 := by omega
      simp [hk, h2, this]
    · have : n - k ≠ 1 := by omega
      simp [hk, h2, this]
  · have : n ≤ k + 1 := by omega
    simp [hk, this]

theorem At.began {n k : Nat} {m : Mod} (h : At n k m) : At n (k + 1) m.began := by
  unfold Mod.began
  rw [h.up]
  by_cases hk : k < n
  · rw [h.arm hk]
    by_cases h2 : n - k = 1
    · have e1 : decide (k < n) = true := by simpa using hk
      rw [e1, if_pos rfl, if_pos h2]
      refine ⟨by simp [Mod.crash, redo_length, h.V], h.sz, rfl, ?_, ?_, fun hh => by omega⟩
      · simp [Mod.crash, h.ops]; omega
      · simp [Mod.crash]; omega
    · have e1 : decide (k < n) = true := by simpa using hk
      rw [e1, if_pos rfl, if_neg h2]
      refine ⟨h.V, h.sz, h.kp, ?_, ?_, fun hh => by simp; omega⟩
      · simp [h.ops]; omega
      · have : k + 1 < n := by omega
        simp [this]
  · have e1 : decide (k < n) = false := by simpa using hk
    rw [e1, if_neg (by simp)]
    refine ⟨h.V, h.sz, h.kp, ?_, ?_, fun hh => by omega⟩
    · rw [h.ops]; omega
    · rw [h.up, e1]; simp; omega

theorem At.sync {n k : Nat} {m : Mod} (h : At n k m) : At n k m.sync := ⟨by simp [Mod.sync, Mod.now, redo_length, h.V], h.sz, h.kp, h.ops, h.up, h.arm⟩
theorem At.put {n k : Nat} {m : Mod} (h : At n k m) (x : Wr) : At n k (Mod.put m x) := ⟨h.V, h.sz, h.kp, h.ops, h.up, h.arm⟩

theorem at_start {n : Nat} (h : 1 ≤ n) : At n 0 { Mod.new 3 2 with arm := n, kp := [] } := ⟨rfl, rfl, rfl, by simp [Mod.new], by simp [Mod.new]; omega, fun _ => by simp⟩

/-- Behind an operation: the next state, in the store's own blocks and new ones. -/
def Next (a k p : Nat) (F : Nat → Prop) (w w' : World) : Prop := ∃ F' m', St w' p F' m' ∧ At a (k + 1) m' ∧ (∀ x, F' x → F x ∨ w.heap.size ≤ x) ∧ Chg F w w'

theorem sync_at {a k p : Nat} {F : Nat → Prop} {m : Mod} {w : World} (s : St w p F m) (hA : At a k m) (ha : a ≤ 100) (r : Int) (hr : r = if a ≤ k + 1 then 6 else 0) :
    Calls Try.prog 17 #[.pointer (some ⟨p, 0, none⟩)] w fun e w' => e = .returned (.int .i64 r) ∧ Next a k p F w w' := by
  have ho : m.ops ≤ 100000000 := by have := hA.ops; omega
  have hkp : m.kp.length ≤ 100000000000 := by rw [hA.kp]; simp
  have hf := hA.fails
  by_cases h : a ≤ k + 1
  · rw [if_pos h] at hr
    subst hr
    refine (sync_fail s ho hkp (by rw [hf]; simpa using h)).mono ?_
    rintro e w' ⟨rfl, s', c⟩
    exact ⟨rfl, F, _, s', hA.began, fun x hx => .inl hx, c⟩
  · rw [if_neg h] at hr
    subst hr
    refine (sync_ok s ho hkp (by rw [hf]; simpa using h)).mono ?_
    rintro e w' ⟨rfl, s', c⟩
    exact ⟨rfl, F, _, s', hA.began.sync, fun x hx => .inl hx, c⟩

theorem read_at {a k p : Nat} {F : Nat → Prop} {m : Mod} {w : World} (s : St w p F m) (hA : At a k m) (ha : a ≤ 100) (r : Int) (hr : r = if a ≤ k + 1 then 6 else 0) (d : Int) (h0 : 0 ≤ d) (h1 : d < 3) :
    Calls Try.prog 12 #[.pointer (some ⟨p, 0, none⟩), .int .i64 d] w fun e w' => ∃ v, e = .returned (.tuple #[v, .int .i64 r]) ∧ Next a k p F w w' := by
  have ho : m.ops ≤ 100000000 := by have := hA.ops; omega
  have hkp : m.kp.length ≤ 100000000000 := by rw [hA.kp]; simp
  have hf := hA.fails
  by_cases h : a ≤ k + 1
  · rw [if_pos h] at hr
    subst hr
    refine (read_fail s ho hkp (by rw [hf]; simpa using h) d).mono ?_
    rintro e w' ⟨rfl, s', c⟩
    exact ⟨_, rfl, F, _, s', hA.began, fun x hx => .inl hx, c⟩
  · rw [if_neg h] at hr
    subst hr
    obtain ⟨n, rfl⟩ := Int.eq_ofNat_of_zero_le h0
    refine (read_in s ho hkp (by rw [hf]; simpa using h) n (by rw [hA.V]; omega)).mono ?_
    rintro e w' ⟨g, rfl, _, _, s', c⟩
    exact ⟨_, rfl, F, _, s', hA.began, fun x hx => .inl hx, c⟩

theorem write_at {a k p : Nat} {F : Nat → Prop} {m : Mod} {w : World} (s : St w p F m) (hA : At a k m) (ha : a ≤ 100) (r : Int) (hr : r = if a ≤ k + 1 then 6 else 0) (d : Int) (h0 : 0 ≤ d) (h1 : d < 3) :
    Calls Try.prog 15 #[.pointer (some ⟨p, 0, none⟩), .int .i64 d, .slice (some ⟨w.heap.size, 0, none⟩) 2 2] (w.alloc (.cells #[.int .u8 1, .int .u8 2] 5)) fun e w' => e = .returned (.int .i64 r) ∧ Next a k p F w w' := by
  have ho : m.ops ≤ 100000000 := by have := hA.ops; omega
  have hkp : m.kp.length ≤ 100000000000 := by rw [hA.kp]; simp
  have hf := hA.fails
  have k0 : Chg no w (w.alloc (.cells #[.int .u8 1, .int .u8 2] 5)) := (Chg.refl no w).alloc _
  have s1 := s.same k0
  have hl := s.lt
  by_cases h : a ≤ k + 1
  · rw [if_pos h] at hr
    subst hr
    refine (write_fail s1 ho hkp (by rw [hf]; simpa using h) d _ _ _).mono ?_
    rintro e w' ⟨rfl, s', c⟩
    exact ⟨rfl, F, _, s', hA.began, fun x hx => .inl hx, (k0.of_no F).then c⟩
  · rw [if_neg h] at hr
    subst hr
    obtain ⟨n, rfl⟩ := Int.eq_ofNat_of_zero_le h0
    refine (write_ok (J := fun k => k = w.heap.size) s1 ho hkp (by rw [hf]; simpa using h) n (by rw [hA.V]; omega) _ [1, 2] (by rw [hA.sz]; rfl) (lies_new [.int .u8 1, .int .u8 2] 5) (fun k hk => by subst hk; exact ⟨fun e => by have := hl _ e; omega, by simp⟩)).mono ?_
    rintro e w' ⟨v, rfl, s', c⟩
    refine ⟨rfl, _, _, s', hA.began.put _, fun x hx => ?_, (k0.of_no F).then c⟩
    have := k0.size
    rcases hx with hx | hx
    · exact .inl hx
    · exact .inr (by omega)

set_option maxHeartbeats 4000000 in
theorem late (a n : Nat) (w : World) (h1 : 1 ≤ a) (h2 : a ≤ 100) (h3 : n ≤ 200) :
    Calls Try.prog 5 #[.int .i64 a, .int .i64 n] w fun e w' => e = .returned (.bool true) ∧ Below w.heap.size w w' := by
  have i1 : (1 : Int) ≤ a := by omega
  have i2 : (a : Int) ≤ 100 := by omega
  have i3 : (n : Int) ≤ 200 := by omega
  have i0 : (0 : Int) ≤ n := by omega
  go_enter Try.func5, Try.ntmps5
  go_wp2_with fail
  refine (first_any _).mono ?_
  rintro e w1 ⟨rfl, k1⟩
  go_wp2_with fail
  refine (new_in 3 2 (by omega) (by omega) (by omega) (by omega)).mono ?_
  rintro e w2 ⟨p, rfl, s2, k2⟩
  go_wp2_with fail
  refine (arm_ok (J := no) s2 a h1 (by omega) (.slice none 0 0) [] (.inl ⟨rfl, rfl⟩) (by simp) (fun _ h => h.elim)).mono ?_
  rintro e w3 ⟨rfl, s3, k3⟩
  go_wp2_with fail
  refine (arm_bad 0 (by omega) _).mono ?_
  rintro e w4 ⟨rfl, rfl⟩
  have z1 := k1.size
  have z2 := k2.size
  have K4 : Chg no w w4 := (k1.then k2).trans k3 (fun k hk => .inr (by omega))
  have S4 : ∃ F m, St w4 p F m ∧ At a 0 m ∧ ∀ k, F k → w.heap.size ≤ k := ⟨_, _, s3, at_start h1, fun k hk => by rcases hk with hk | hk <;> omega⟩
  clear s2 s3 k1 k2 k3
  go_wp2_with fail
  go_loopw [7] (fun i wr => ∃ (k : Nat) (F : Nat → Prop) (m : Mod), k ≤ n ∧ i = .int .i64 ((k : Int) + 1) ∧ St wr p F m ∧ At a k m ∧ (∀ k, F k → w.heap.size ≤ k) ∧ Chg no w wr) (fun i _ => n + 1 - (intOf i).toNat)
  case atStart =>
    obtain ⟨F, m, s, h, hF⟩ := S4
    exact ⟨0, F, m, by omega, rfl, s, h, hF, K4⟩
  case round =>
    clear S4 K4
    obtain ⟨k, F, m, hk, rfl, s, hA, hF, C⟩ := hrel
    by_cases hkn : k < n
    · have hki : (k : Int) + 1 ≤ n := by omega
      have HC : Hid (∀ w', Next a k p F wr w' → Chg no w w') := fun w' hN => by
        obtain ⟨F', m', s', hA', hF', c'⟩ := hN
        exact C.trans c' (fun x hx => .inr (hF x hx))
      have HN : Hid (∀ w', Next a k p F wr w' → ∃ F' m', St w' p F' m' ∧ At a (k + 1) m' ∧ ∀ x, F' x → w.heap.size ≤ x) := fun w' hN => by
        obtain ⟨F', m', s', hA', hF', c'⟩ := hN
        have := C.size
        exact ⟨F', m', s', hA', fun x hx => by rcases hF' x hx with h | h; exact hF x h; omega⟩
      by_cases hak : a ≤ k + 1
      · have haki : (a : Int) ≤ (k : Int) + 1 := by omega
        have hmin : (if (a : Int) < (k : Int) + 1 then (a : Int) else (k : Int) + 1) = a := by split <;> omega
        have HS := sync_at s hA h2 6 (by rw [if_pos hak])
        have HR := read_at s hA h2 6 (by rw [if_pos hak]) (((k : Int) + 1) % 2) (by omega) (by omega)
        have HW := write_at s hA h2 6 (by rw [if_pos hak]) (((k : Int) + 1) % 2) (by omega) (by omega)
        clear s hA C
        go_wp2_with fail
        · refine HS.mono ?_
          rintro e w5 ⟨rfl, N5⟩
          obtain ⟨F5, m5, s5, hA5, hF5⟩ := HN.out _ N5
          have C5 := HC.out _ N5
          have e1 : m5.up = false := by rw [hA5.up]; simp; omega
          have e2 : (m5.ops : Int) = a := by have := hA5.ops; omega
          have U := up_any s5
          have O := ops_any s5
          rw [e1] at U
          rw [e2] at O
          clear HS HR HW e1 e2
          go_wp2_with fail
          refine U.mono ?_
          rintro e w6 ⟨rfl, rfl⟩
          go_wp2_with fail
          refine O.mono ?_
          rintro e w7 ⟨rfl, rfl⟩
          go_wp2
          go_roundw
          case rel => exact ⟨k + 1, F5, m5, by omega, by go_num, s5, hA5, hF5, C5⟩
          case measure => simp [intOf]; omega
        · refine HW.mono ?_
          rintro e w5 ⟨rfl, N5⟩
          obtain ⟨F5, m5, s5, hA5, hF5⟩ := HN.out _ N5
          have C5 := HC.out _ N5
          have e1 : m5.up = false := by rw [hA5.up]; simp; omega
          have e2 : (m5.ops : Int) = a := by have := hA5.ops; omega
          have U := up_any s5
          have O := ops_any s5
          rw [e1] at U
          rw [e2] at O
          clear HS HR HW e1 e2
          go_wp2_with fail
          refine U.mono ?_
          rintro e w6 ⟨rfl, rfl⟩
          go_wp2_with fail
          refine O.mono ?_
          rintro e w7 ⟨rfl, rfl⟩
          go_wp2
          go_roundw
          case rel => exact ⟨k + 1, F5, m5, by omega, by go_num, s5, hA5, hF5, C5⟩
          case measure => simp [intOf]; omega
        · refine HR.mono ?_
          rintro e w5 ⟨v5, rfl, N5⟩
          obtain ⟨F5, m5, s5, hA5, hF5⟩ := HN.out _ N5
          have C5 := HC.out _ N5
          have e1 : m5.up = false := by rw [hA5.up]; simp; omega
          have e2 : (m5.ops : Int) = a := by have := hA5.ops; omega
          have U := up_any s5
          have O := ops_any s5
          rw [e1] at U
          rw [e2] at O
          clear HS HR HW e1 e2
          go_wp2_with fail
          refine U.mono ?_
          rintro e w6 ⟨rfl, rfl⟩
          go_wp2_with fail
          refine O.mono ?_
          rintro e w7 ⟨rfl, rfl⟩
          go_wp2
          go_roundw
          case rel => exact ⟨k + 1, F5, m5, by omega, by go_num, s5, hA5, hF5, C5⟩
          case measure => simp [intOf]; omega
      · have haki : (k : Int) + 1 < (a : Int) := by omega
        have hmin : (if (a : Int) < (k : Int) + 1 then (a : Int) else (k : Int) + 1) = (k : Int) + 1 := by split <;> omega
        have HS := sync_at s hA h2 0 (by rw [if_neg hak])
        have HR := read_at s hA h2 0 (by rw [if_neg hak]) (((k : Int) + 1) % 2) (by omega) (by omega)
        have HW := write_at s hA h2 0 (by rw [if_neg hak]) (((k : Int) + 1) % 2) (by omega) (by omega)
        clear s hA C
        go_wp2_with fail
        · refine HS.mono ?_
          rintro e w5 ⟨rfl, N5⟩
          obtain ⟨F5, m5, s5, hA5, hF5⟩ := HN.out _ N5
          have C5 := HC.out _ N5
          have e1 : m5.up = true := by rw [hA5.up]; simp; omega
          have e2 : (m5.ops : Int) = (k : Int) + 1 := by have := hA5.ops; omega
          have U := up_any s5
          have O := ops_any s5
          rw [e1] at U
          rw [e2] at O
          clear HS HR HW e1 e2
          go_wp2_with fail
          refine U.mono ?_
          rintro e w6 ⟨rfl, rfl⟩
          go_wp2_with fail
          refine O.mono ?_
          rintro e w7 ⟨rfl, rfl⟩
          go_wp2
          go_roundw
          case rel => exact ⟨k + 1, F5, m5, by omega, by go_num, s5, hA5, hF5, C5⟩
          case measure => simp [intOf]; omega
        · refine HW.mono ?_
          rintro e w5 ⟨rfl, N5⟩
          obtain ⟨F5, m5, s5, hA5, hF5⟩ := HN.out _ N5
          have C5 := HC.out _ N5
          have e1 : m5.up = true := by rw [hA5.up]; simp; omega
          have e2 : (m5.ops : Int) = (k : Int) + 1 := by have := hA5.ops; omega
          have U := up_any s5
          have O := ops_any s5
          rw [e1] at U
          rw [e2] at O
          clear HS HR HW e1 e2
          go_wp2_with fail
          refine U.mono ?_
          rintro e w6 ⟨rfl, rfl⟩
          go_wp2_with fail
          refine O.mono ?_
          rintro e w7 ⟨rfl, rfl⟩
          go_wp2
          go_roundw
          case rel => exact ⟨k + 1, F5, m5, by omega, by go_num, s5, hA5, hF5, C5⟩
          case measure => simp [intOf]; omega
        · refine HR.mono ?_
          rintro e w5 ⟨v5, rfl, N5⟩
          obtain ⟨F5, m5, s5, hA5, hF5⟩ := HN.out _ N5
          have C5 := HC.out _ N5
          have e1 : m5.up = true := by rw [hA5.up]; simp; omega
          have e2 : (m5.ops : Int) = (k : Int) + 1 := by have := hA5.ops; omega
          have U := up_any s5
          have O := ops_any s5
          rw [e1] at U
          rw [e2] at O
          clear HS HR HW e1 e2
          go_wp2_with fail
          refine U.mono ?_
          rintro e w6 ⟨rfl, rfl⟩
          go_wp2_with fail
          refine O.mono ?_
          rintro e w7 ⟨rfl, rfl⟩
          go_wp2
          go_roundw
          case rel => exact ⟨k + 1, F5, m5, by omega, by go_num, s5, hA5, hF5, C5⟩
          case measure => simp [intOf]; omega
    · obtain rfl : k = n := by omega
      have hki : (k : Int) < (k : Int) + 1 := by omega
      go_wp2_with fail
      refine (first_any _).mono ?_
      rintro e w5 ⟨rfl, k5⟩
      have s5 := s.same k5
      have HU := hA.up
      go_wp2_with fail
      refine (reboot_any s5).mono ?_
      rintro e w6 ⟨rfl, s6, k6⟩
      have CC : Hid (Chg no w w6) := (C.then k5).trans k6 (fun k hk => .inr (hF k hk))
      by_cases hka : k < a
      · have hkai : (k : Int) < a := by omega
        have e1 : m.up = true := by rw [HU]; simpa using hka
        rw [e1]
        clear HU e1
        go_wp2_with fail
        refine (up_any s6).mono ?_
        rintro e w7 ⟨rfl, rfl⟩
        go_wp2
        go_ret
        exact ⟨ret_bool (by simp; try omega), CC.out.below⟩
      · have hkai : (a : Int) ≤ k := by omega
        have e1 : m.up = false := by rw [HU]; simpa using hka
        rw [e1]
        clear HU e1
        go_wp2_with fail
        refine (up_any s6).mono ?_
        rintro e w7 ⟨rfl, rfl⟩
        go_wp2
        go_ret
        exact ⟨ret_bool (by simp; try omega), CC.out.below⟩

theorem walk (a0 : Int) (a1 : Int) (w0 : (Lit.int .i64 a0).wf = true) (w1 : (Lit.int .i64 a1).wf = true) (w : World) :
    Calls Try.prog 5 #[.int .i64 a0, .int .i64 a1] w fun e w' => e = .returned (.bool true) ∧ Below w.heap.size w w' := by
  by_cases hh : a0 < 1 ∨ 100 < a0 ∨ a1 < 0 ∨ 200 < a1
  · exact early a0 a1 w hh
  · obtain ⟨a, rfl⟩ := Int.eq_ofNat_of_zero_le (show 0 ≤ a0 by omega)
    obtain ⟨n, rfl⟩ := Int.eq_ofNat_of_zero_le (show 0 ≤ a1 by omega)
    exact late a n w (by omega) (by omega) (by omega)

/-! ### THE ROW's STEP: WRITTEN OUT: LEAVE IT -/
set_option maxRecDepth 100000 in
theorem lifted (os : Os) (started : os.Started) (H : Type) (enc : TypeId × Value → H) :
    ReturnsInHanded {} Try.checked os 5 .any (Rows.cellsArmedSpec.pre6 enc Try.prog Try.f5 Rows.cellsArmedRow.domain false) (Rows.cellsArmedSpec.post enc Try.prog Try.f5 false true false false) := by
  refine returnsInHanded_of_change (C := Try.checked) own started (by kernel_rfl) Try.func5
    (ChangeSpec.witness6 (enc := enc) (C := Try.checked) false ⟨#[], #[.int .i64 0, .int .i64 0], []⟩ 8 (by kernel_rfl) (by kernel_rfl) (by kernel_rfl) (by kernel_rfl)) ?_
  intro W base args ds gs before hval0 hW hcnd _
  have hval : ∀ (j : Nat) t v, Try.f5.params[j]? = some t → args[j]? = some v → Value.okWide Try.prog W .any base t v := hval0
  have hW' := hW
  obtain ⟨p, q, hA0, hV, rfl, hfz, hnd⟩ := hW
  have hA : DataW.TrodAll enc Try.prog W 0 (fun _ => true) true Try.f5.params.toList args.toList ds p := hA0
  rw [Try.params5] at hA hval
  obtain ⟨v0, vs0, d0, ds0, p0, q0, hargs, rfl, rfl, h0, r0⟩ := trodAll_cons hA
  obtain ⟨v1, vs1, d1, ds1, p1, q1, rfl, rfl, rfl, h1, r1⟩ := trodAll_cons r0
  obtain ⟨rfl, rfl, rfl⟩ := trodAll_nil r1
  obtain rfl : args = #[v0, v1] := by cases args; simp_all
  obtain ⟨rfl, rfl⟩ := trodVars_none hV
  obtain ⟨a0, rfl, rfl, rfl, w0⟩ := open_int Try.underlying3 (hval 0 3 v0 rfl rfl) h0
  obtain ⟨a1, rfl, rfl, rfl, w1⟩ := open_int Try.underlying3 (hval 1 3 v1 rfl rfl) h1
  clear hA0 hval0
  refine (walk a0 a1 w0 w1 W).mono fun e W' ⟨he, bel⟩ => ?_
  subst he
  exact ⟨_, rfl, _, _, _, [], _, [], hW', trodAll_mk1 (shut_bool Try.underlying4 _), (trodAll_cons_mk (shut_int Try.underlying3 w0) (trodAll_cons_mk (shut_int Try.underlying3 w1) trodAll_mk0)), rfl, bel.frame _, fun h => by cases h⟩

theorem over : Rows.cellsArmedRow.holds Try.pinned (OpenSpec.ofChange Rows.cellsArmedSpec) :=
  OpenClaim.holds_of_wide 5 Try.f5 rfl rfl rfl rfl rfl rfl rfl ⟨rfl, rfl, rfl, rfl, rfl⟩ rfl rfl rfl rfl rfl (by kernel_rfl) Try.func5 (by kernel_rfl)
    (of_decide_eq_true (by kernel_rfl)) (by unfold Func.isWrapper; first | (rw [if_pos (by decide +kernel)]; kernel_rfl) | (rw [if_neg (by decide +kernel)]; exact ⟨rfl, rfl⟩))
    (fun os started H enc _ => lifted os started H enc)

/-- ████ THE STATEMENT ████ -/
theorem proved : Rows.CellsArmedSaid :=
  over
end Go.Proofs.Ytjmdjadnllakpaa.cellsArmed
namespace Go.Proofs.Ytjmdjadnllakpaa
theorem cellsArmed_holds : Rows.CellsArmedSaid := cellsArmed.proved
#print axioms cellsArmed_holds
end Go.Proofs.Ytjmdjadnllakpaa
