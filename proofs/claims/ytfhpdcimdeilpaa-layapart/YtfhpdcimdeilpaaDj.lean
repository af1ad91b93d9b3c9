/- Few, area, the smallest configuration; what the laws ask of the program. -/
import Derived.Test.YtfhpdcimdeilpaaDi
namespace Go.Proofs.Ytfhpdcimdeilpaa.st
open Go.ChangeShapes Go.WideShapes Go.ChangeAt Go.RowKit Go.Proofs.Ytfhpdcimdeilpaa.hp
set_option linter.unusedVariables false
set_option linter.unusedSimpArgs false

theorem area_any (w : World) (u v : Int) : Calls Try.prog 27 #[areaV (u, v)] w fun e w' => e = .returned (areaV (u, v)) ∧ Chg no w w' := by
  have hres : Try.f27.results = #[.cell 2 37] := by kernel_rfl
  go_enter Try.func27, Try.ntmps27
  go_wp2
  refine bodyPost_ret (v := areaV (u, v)) ?_ rfl ⟨rfl, ((Chg.refl no w).alloc _).alloc _⟩
  simp only [results, hres]
  go_simp

/-- What Few tells: if true, the columns are few. -/
def FewRes (len : Nat) (Z : Nat → List Int) (w : World) (e : Ending) (w' : World) : Prop := ∃ B, e = .returned (.bool B) ∧ Chg no w w' ∧ (B = true → len ≤ 50 ∧ ∀ r, r < len → (Z r).length ≤ 2000)

/-- Few: many tables, or many columns: false; else the columns are few. -/
theorem few_any (w : World) (I : Ic) (a : Option Addr) (len c : Nat) (A : Nat → Option Addr) (C : Nat → Nat) (Z : Nat → List Int) (hlen : len ≤ maxLen) (R : Rws w a len A C Z) : Calls Try.prog 8 #[cfgI I (.slice a len c)] w (FewRes len Z w) := by
  have HR : Hid (Rws w a len A C Z) := R
  have hlmax : (len : Int) ≤ 9223372036854775807 := by unfold maxLen at hlen; omega
  obtain ⟨h, z, b, r, rd, wt, s, p, q, t⟩ := I
  try simp only at *
  clear R hlen
  go_enter Try.func8, Try.ntmps8
  go_wp2_with fail
  obtain ⟨w1, hw1⟩ : ∃ w1, w.alloc (cfgOI h z b r rd wt s p q t (.slice a len c)) = w1 := ⟨_, rfl⟩
  have hb : w1.heap[w.heap.size]? = some (cfgOI h z b r rd wt s p q t (.slice a len c)) := by rw [← hw1]; exact heap_alloc_new w _
  have HK1 : Hid (Chg no w w1) := by rw [← hw1]; exact (Chg.refl no w).alloc _
  rw [hw1]
  obtain ⟨g, hg⟩ : ∃ g, w.heap.size = g := ⟨_, rfl⟩
  rw [hg] at hb ⊢
  clear hw1 hg
  obtain ⟨c0, c1, c2, c3, c4, c5, c6, c7, c8, c9, c10⟩ := cfgI_cells hb
  have HRW := HR.out.later HK1.out
  have HRW' : Hid (∀ r, r < len → _) := HRW
  clear hb HRW c0 c1 c2 c3 c4 c5 c6 c7 c8 c9
  go_loopw [3, 4] (fun kv iv wq => ∃ i K : Nat, i ≤ len ∧ i ≤ 50 ∧ kv = .int .i64 (K : Int) ∧ iv = .int .i64 (i : Int) ∧ (∀ r, r < i → min (Z r).length 2001 ≤ K) ∧ K ≤ 2001 * i ∧ wq = w1) (fun _ iv _ => len - (intOf iv).toNat)
  case atStart => exact ⟨0, 0, by omega, by omega, rfl, rfl, fun r hr => by omega, by omega, rfl⟩
  case round =>
    obtain ⟨i, K, hi, hi2, rfl, rfl, hK, hK2, hwq⟩ := hrel
    subst hwq
    have HK : Hid (∀ r, r < i → min (Z r).length 2001 ≤ K) := hK
    clear hK
    by_cases hil : i < len ∧ i < 50
    · obtain ⟨h1, h2⟩ := hil
      have h1i : (i : Int) < len := by omega
      have h2i : (i : Int) < 50 := by omega
      obtain ⟨y, rfl, d1, hc1, hc2, _⟩ := HRW'.out i h1
      obtain ⟨m, hm⟩ : ∃ m, (Z i).length = m := ⟨_, rfl⟩
      have HM : Hid ((Z i).length = m) := hm
      rw [hm] at d1 hc1
      have hmi : (m : Int) ≤ 9223372036854775807 := by unfold maxLen at hc2; omega
      have hKi : (K : Int) ≤ 100050 := by omega
      clear hm hc1 hc2
      have HN : Hid (∀ r, r < i + 1 → min (Z r).length 2001 ≤ K + min m 2001) := fun r hr => by
        by_cases h : r < i
        · have := HK.out r h
          omega
        · obtain rfl : r = i := by omega
          rw [HM.out]
          omega
      go_wp2
      go_roundw
      case rel => exact ⟨i + 1, K + min m 2001, by omega, by omega, by congr 1; split <;> omega, by go_num, HN.out, by omega, by trivial⟩
      case measure => simp [intOf]; omega
    · by_cases hbig : 50 < len
      · have hb : ¬ (len : Int) ≤ 50 := by omega
        have hq : i = 50 := by omega
        subst hq
        clear hil
        go_wp2
        go_ret
        exact ⟨false, rfl, HK1.out, fun h => by cases h⟩
      have hb : (len : Int) ≤ 50 := by omega
      obtain rfl : i = len := by omega
      have hi0 : ¬ (i : Int) < i := by omega
      clear hil hbig hi
      by_cases hbk : 2000 < K
      · have hkb : ¬ (K : Int) ≤ 2000 := by omega
        go_wp2
        go_ret
        exact ⟨false, rfl, HK1.out, fun h => by cases h⟩
      · have hkb : (K : Int) ≤ 2000 := by omega
        have HZ : Hid (i ≤ 50 ∧ ∀ r, r < i → (Z r).length ≤ 2000) := ⟨by omega, fun r hr => by have := HK.out r hr; omega⟩
        go_wp2
        go_ret
        exact ⟨true, rfl, HK1.out, fun _ => HZ.out⟩

/-! ### What the laws ask of the program -/

/-- A Lay's value: its Config's cells. -/
abbrev layV (K : Cf) (tv : Value) : Value := cfgV K tv

def natC (I : Ic) : Cf := ⟨I.h.toNat, I.z.toNat, I.b.toNat, I.r.toNat, I.rd.toNat, I.wr.toNat, I.s.toNat, I.p.toNat, I.q.toNat, I.t.toNat⟩

theorem natC_ok {I : Ic} {len : Nat} (h : okI I len) : okC (natC I) := by
  obtain ⟨a0, a1, a2, a3, a4, a5, a6, a7, a8, a9, a10⟩ := h
  unfold natC
  constructor <;> simp only <;> omega

theorem natC_val {I : Ic} {len : Nat} (h : okI I len) (tv : Value) : cfgI I tv = cfgV (natC I) tv := by
  obtain ⟨a0, a1, a2, a3, a4, a5, a6, a7, a8, a9, a10⟩ := h
  unfold natC
  simp only [cfgI, cfgV]
  rw [Int.toNat_of_nonneg a0.1, Int.toNat_of_nonneg (by omega : 0 ≤ I.z), Int.toNat_of_nonneg (by omega : 0 ≤ I.b), Int.toNat_of_nonneg (by omega : 0 ≤ I.r), Int.toNat_of_nonneg (by omega : 0 ≤ I.rd), Int.toNat_of_nonneg (by omega : 0 ≤ I.wr), Int.toNat_of_nonneg a6.1, Int.toNat_of_nonneg (by omega : 0 ≤ I.p), Int.toNat_of_nonneg (by omega : 0 ≤ I.q), Int.toNat_of_nonneg (by omega : 0 ≤ I.t)]

structure Ways : Prop where
  may : ∀ (w : World) (I : Ic) (a : Option Addr) (len c : Nat) (A : Nat → Option Addr) (C : Nat → Nat) (Z : Nat → List Int), Rws w a len A C Z → len ≤ maxLen → ∀ B : Bool, (B = true ↔ mayP I len Z) → Calls Try.prog 10 #[cfgI I (.slice a len c)] w fun e w' => e = .returned (.bool B) ∧ Chg no w w'
  of0 : ∀ (w : World) (I : Ic) (a : Option Addr) (len c : Nat) (A : Nat → Option Addr) (C : Nat → Nat) (Z : Nat → List Int), Rws w a len A C Z → len ≤ maxLen → ¬ mayP I len Z → Calls Try.prog 9 #[cfgI I (.slice a len c)] w fun e w' => ∃ J a' n' c', e = .returned (.tuple #[cfgI J (.slice a' n' c'), .int .i64 1]) ∧ Chg no w w'
  of1 : ∀ (w : World) (I : Ic) (a : Option Addr) (len c : Nat) (A : Nat → Option Addr) (C : Nat → Nat) (Z : Nat → List Int), Rws w a len A C Z → len ≤ maxLen → mayP I len Z → Calls Try.prog 9 #[cfgI I (.slice a len c)] w fun e w' => ∃ a' n' c', e = .returned (.tuple #[layV (natC I) (.slice a' n' c'), .int .i64 0]) ∧ Chg no w w'
  pay : ∀ (w : World) (K : Cf), okC K → ∀ (a : Option Addr) (n c : Nat), Calls Try.prog 12 #[layV K (.slice a n c)] w fun e w' => e = .returned (.int .i64 ((payN K : Nat) : Int)) ∧ Chg no w w'
  cell : ∀ (w : World) (K : Cf), okC K → ∀ (a : Option Addr) (n c : Nat), Calls Try.prog 14 #[layV K (.slice a n c)] w fun e w' => e = .returned (.int .i64 ((12 + payN K : Nat) : Int)) ∧ Chg no w w'
  slots : ∀ (w : World) (K : Cf), okC K → ∀ (a : Option Addr) (n c : Nat), Calls Try.prog 16 #[layV K (.slice a n c)] w fun e w' => e = .returned (.int .i64 ((slotsN K : Nat) : Int)) ∧ Chg no w w'
  batch : ∀ (w : World) (K : Cf), okC K → ∀ (a : Option Addr) (n c : Nat) (i : Int), Calls Try.prog 18 #[layV K (.slice a n c), .int .i64 i] w fun e w' => e = .returned (.int .i64 (batchI K i)) ∧ Chg no w w'
  logl : ∀ (w : World) (K : Cf), okC K → ∀ (a : Option Addr) (n c : Nat), Calls Try.prog 20 #[layV K (.slice a n c)] w fun e w' => e = .returned (.int .i64 12) ∧ Chg no w w'
  deltal : ∀ (w : World) (K : Cf), okC K → ∀ (a : Option Addr) (n c : Nat), Calls Try.prog 21 #[layV K (.slice a n c)] w fun e w' => e = .returned (.int .i64 ((deltaN K : Nat) : Int)) ∧ Chg no w w'
  fulll : ∀ (w : World) (K : Cf), okC K → ∀ (a : Option Addr) (n c : Nat), Calls Try.prog 23 #[layV K (.slice a n c)] w fun e w' => e = .returned (.int .i64 ((fullN K : Nat) : Int)) ∧ Chg no w w'
  clogl : ∀ (w : World) (K : Cf), okC K → ∀ (a : Option Addr) (n c : Nat), Calls Try.prog 25 #[layV K (.slice a n c)] w fun e w' => e = .returned (.int .i64 ((clogN K : Nat) : Int)) ∧ Chg no w w'
  log : ∀ (w : World) (K : Cf), okC K → ∀ (a : Option Addr) (n c : Nat) (i : Int), i ≤ 4611686018427387904 → Calls Try.prog 28 #[layV K (.slice a n c), .int .i64 i] w fun e w' => e = .returned (areaV (logA K i)) ∧ Chg no w w'
  clog : ∀ (w : World) (K : Cf), okC K → ∀ (a : Option Addr) (n c : Nat) (i : Int), i ≤ 4611686018427387904 → Calls Try.prog 30 #[layV K (.slice a n c), .int .i64 i] w fun e w' => e = .returned (areaV (clogA K i)) ∧ Chg no w w'
  delta : ∀ (w : World) (K : Cf), okC K → ∀ (a : Option Addr) (n c : Nat) (i : Int), i ≤ 4611686018427387904 → Calls Try.prog 32 #[layV K (.slice a n c), .int .i64 i] w fun e w' => e = .returned (areaV (deltaA K i)) ∧ Chg no w w'
  full : ∀ (w : World) (K : Cf), okC K → ∀ (a : Option Addr) (n c : Nat) (i : Int), i ≤ 4611686018427387904 → Calls Try.prog 34 #[layV K (.slice a n c), .int .i64 i] w fun e w' => e = .returned (areaV (fullA K i)) ∧ Chg no w w'
  check : ∀ (w : World) (K : Cf), okC K → ∀ (a : Option Addr) (n c : Nat) (i : Int), i ≤ 4611686018427387904 → Calls Try.prog 36 #[layV K (.slice a n c), .int .i64 i] w fun e w' => e = .returned (areaV (checkA K i)) ∧ Chg no w w'
  bucket : ∀ (w : World) (K : Cf), okC K → ∀ (a : Option Addr) (n c : Nat) (b v : Int), Calls Try.prog 38 #[layV K (.slice a n c), .int .i64 b, .int .i64 v] w fun e w' => e = .returned (.int .i64 (bucketA K b v)) ∧ Chg no w w'
  total : ∀ (w : World) (K : Cf), okC K → ∀ (a : Option Addr) (n c : Nat), Calls Try.prog 40 #[layV K (.slice a n c)] w fun e w' => e = .returned (.int .i64 (st5 K : Int)) ∧ Chg no w w'
  tick : ∀ (w : World) (K : Cf), okC K → ∀ (a : Option Addr) (n c : Nat) (i : Int), i ≤ 4611686018427387904 → Calls Try.prog 42 #[layV K (.slice a n c), .int .i64 i] w fun e w' => e = .returned (.int .i64 (tickA K i)) ∧ Chg no w w'
  recov : ∀ (w : World) (K : Cf), okC K → ∀ (a : Option Addr) (n c : Nat) (i j : Int), i ≤ 4611686018427387903 → j ≤ 2097152 → Calls Try.prog 44 #[layV K (.slice a n c), .int .i64 i, .int .i64 j] w fun e w' => e = .returned (.int .i64 (recA K i j)) ∧ Chg no w w'
  make : ∀ (w : World) (K : Cf), okC K → ∀ (a : Option Addr) (n c : Nat), Calls Try.prog 46 #[layV K (.slice a n c)] w fun e w' => e = .returned (.int .i64 ((5 + cFull K : Nat) : Int)) ∧ Chg no w w'

end Go.Proofs.Ytfhpdcimdeilpaa.st
