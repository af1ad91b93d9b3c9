/- The document's May, its tables. -/
import Derived.Test.YtfhpdcimdeilpaaDh
import Derived.Test.YtfhpdcimdeilpaaOpr
namespace Go.Proofs.Ytfhpdcimdeilpaa.st
open Go.ChangeShapes Go.WideShapes Go.ChangeAt Go.RowKit Go.Proofs.Ytfhpdcimdeilpaa.hp
set_option linter.unusedVariables false
set_option linter.unusedSimpArgs false

theorem lies_at {J : Nat → Prop} {w : World} {a : Option Addr} {l c : Nat} {zs : List Int} (h : Lies J w (.slice a l c) (zs.map (Value.int .i64))) (k : Nat) (hk : k < zs.length) : ∃ y, a = some y ∧ w.cell? (y.add k) = some (.int .i64 (zs.getD k 0)) := by
  obtain ⟨a', c', hv, hc⟩ := h.slice
  cases hv
  obtain ⟨y, hy, _, hy2⟩ := hc k (.int .i64 (zs.getD k 0)) (by rw [List.getElem?_map, List.getD_eq_getElem?_getD, List.getElem?_eq_getElem hk]; rfl)
  exact ⟨y, hy, hy2⟩

theorem getD_mem {x : List Int} {i : Nat} (hi : i < x.length) : x.getD i 0 ∈ x := by
  rw [List.getD_eq_getElem?_getD, List.getElem?_eq_getElem hi]
  exact List.getElem_mem hi

theorem Rws.later {w W : World} {a : Option Addr} {len : Nat} {A : Nat → Option Addr} {C : Nat → Nat} {Z : Nat → List Int} (R : Rws w a len A C Z) (k : Chg no w W) : ∀ r, r < len → ∃ y, a = some y ∧ W.cell? (y.add r) = some (.slice (A r) (Z r).length (C r)) ∧ (Z r).length ≤ C r ∧ C r ≤ maxLen ∧ Lies (Old w) W (.slice (A r) (Z r).length (C r)) ((Z r).map (Value.int .i64)) := fun r hr => by
  obtain ⟨y, h1, h2, h3, h4, h5⟩ := R r hr
  exact ⟨y, h1, k.cell h2 id, h3, h4, h5.chg k (fun _ _ h => h)⟩

set_option maxRecDepth 100000 in
set_option maxHeartbeats 8000000 in
theorem rmay_tab (w : World) (I : Ic) (a : Option Addr) (len c : Nat) (A : Nat → Option Addr) (C : Nat → Nat) (Z : Nat → List Int) (hI : okI I len) (R : Rws w a len A C Z) (B : Bool) (hB : B = true ↔ okT len Z) : Calls Try.prog 11 #[cfgI I (.slice a len c)] w fun e w' => e = .returned (.bool B) ∧ Chg no w w' := by
  have H1 : Hid (∀ W, _) := fun W => rmayh_any W I.h
  have H2 : Hid (∀ W, _) := fun W => rlength_any W I.z
  obtain ⟨a0, a1, ⟨a2, a3⟩, ⟨a4, a5⟩, ⟨a6, a7⟩, ⟨a8, a9⟩, ⟨a10, a11⟩, ⟨a12, a13⟩, ⟨a14, a15⟩, ⟨a16, a17⟩, ⟨a18, a19⟩⟩ := hI
  rw [decide_eq_true a0] at H1
  rw [if_pos a1] at H2
  have hz0 : ¬ 38 * I.z = 0 := by omega
  obtain ⟨Y, hY⟩ : ∃ Y, 38 * I.z = Y := ⟨_, rfl⟩
  rw [hY] at H2 hz0
  have u2 : ¬ I.b < 1 := by omega
  have u3 : ¬ 64 < I.b := by omega
  have u4 : ¬ I.r < 1 := by omega
  have u5 : ¬ 4 < I.r := by omega
  have u6 : ¬ I.rd < 1 := by omega
  have u7 : ¬ 8 < I.rd := by omega
  have u8 : ¬ I.wr < 1 := by omega
  have u9 : ¬ 8 < I.wr := by omega
  have u10 : ¬ I.s < 0 := by omega
  have u11 : ¬ 64 < I.s := by omega
  have u12 : ¬ I.p < 1 := by omega
  have u13 : ¬ 8 < I.p := by omega
  have u14 : ¬ I.q < 1 := by omega
  have u15 : ¬ 16 < I.q := by omega
  have u16 : ¬ I.t < 1 := by omega
  have u17 : ¬ 8 < I.t := by omega
  have u18 : ¬ (len : Int) < 1 := by omega
  have u19 : ¬ (4 : Int) < len := by omega
  have HR : Hid (Rws w a len A C Z) := R
  have HBB : Hid (B = true ↔ okT len Z) := hB
  obtain ⟨h, z, b, r, rd, wt, s, p, q, t⟩ := I
  try simp only at *
  have hl4 : len ≤ 4 := a19
  clear hY a0 a1 a2 a3 a4 a5 a6 a7 a8 a9 a10 a11 a12 a13 a14 a15 a16 a17 a18 a19 hB R
  go_enter Try.func11, Try.ntmps11
  go_wp2_with fail
  refine (H1.out _).mono ?_
  rintro e w2 ⟨rfl, hw⟩
  subst hw
  obtain ⟨w1, hw1⟩ : ∃ w1, w.alloc (cfgOI h z b r rd wt s p q t (.slice a len c)) = w1 := ⟨_, rfl⟩
  have hb : w1.heap[w.heap.size]? = some (cfgOI h z b r rd wt s p q t (.slice a len c)) := by rw [← hw1]; exact heap_alloc_new w _
  have HK1 : Hid (Chg no w w1) := by rw [← hw1]; exact (Chg.refl no w).alloc _
  rw [hw1]
  obtain ⟨g, hg⟩ : ∃ g, w.heap.size = g := ⟨_, rfl⟩
  rw [hg] at hb ⊢
  clear hw1 hg
  obtain ⟨c0, c1, c2, c3, c4, c5, c6, c7, c8, c9, c10⟩ := cfgI_cells hb
  have HRW := HR.out.later HK1.out
  have HRW' : Hid (∀ r, r < len → _) := HRW
  clear hb HRW
  go_wp2_with fail
  refine (H2.out _).mono ?_
  rintro e w3 ⟨rfl, hw⟩
  subst hw
  have hy : (Y == 0) = false := by simpa using hz0
  go_wp2_with fail
  clear c0 c1 c2 c3 c4 c5 c6 c7 c8 c9 u2 u3 u4 u5 u6 u7 u8 u9 u10 u11 u12 u13 u14 u15 u16 u17 hz0 hy
  go_loopw [3] (fun iv wr => ∃ i : Nat, i ≤ len ∧ iv = .int .i64 (i : Int) ∧ (∀ r, r < i → 1 ≤ (Z r).length ∧ (Z r).length ≤ 4 ∧ ∀ k ∈ Z r, k = 1 ∨ k = 2) ∧ wr = w3) (fun iv _ => len - (intOf iv).toNat)
  case atStart => exact ⟨0, by omega, rfl, fun r hr => by omega, rfl⟩
  case round =>
    obtain ⟨i, hi, rfl, hok, hwr⟩ := hrel
    subst hwr
    have HO : Hid (∀ r, r < i → 1 ≤ (Z r).length ∧ (Z r).length ≤ 4 ∧ ∀ k ∈ Z r, k = 1 ∨ k = 2) := hok
    clear hok
    by_cases hil : i < len
    · have hii : (i : Int) < len := by omega
      obtain ⟨y, rfl, d1, d2, d3, hL⟩ := HRW'.out i hil
      obtain ⟨m, hm⟩ : ∃ m, (Z i).length = m := ⟨_, rfl⟩
      obtain ⟨b1, hb1⟩ : ∃ b, A i = b := ⟨_, rfl⟩
      obtain ⟨e1, he1⟩ : ∃ b, C i = b := ⟨_, rfl⟩
      obtain ⟨zs, hzs⟩ : ∃ zs, Z i = zs := ⟨_, rfl⟩
      have HM : Hid (zs.length = m) := by show _ = _; rw [← hzs]; exact hm
      have HZ : Hid (Z i = zs) := hzs
      rw [hm, hb1, he1] at d1 hL
      rw [hzs] at hL
      have HL : Hid (Lies (Old w) wr (.slice b1 m e1) (zs.map (Value.int .i64))) := hL
      have hmle : (m : Int) ≤ 9223372036854775807 := by unfold maxLen at d3; omega
      clear hm hb1 he1 hzs hL d2 d3
      by_cases hm1 : (m : Int) < 1
      · have hbf : B = false := by
          rw [Bool.eq_false_iff]
          intro hh
          have := (HBB.out.1 hh i hil).1
          rw [HZ.out, HM.out] at this
          omega
        subst hbf
        go_wp2
        go_ret
        exact ⟨rfl, HK1.out⟩
      by_cases hm4 : (4 : Int) < m
      · have hbf : B = false := by
          rw [Bool.eq_false_iff]
          intro hh
          have := (HBB.out.1 hh i hil).2.1
          rw [HZ.out, HM.out] at this
          omega
        subst hbf
        go_wp2
        go_ret
        exact ⟨rfl, HK1.out⟩
      go_wp2_with fail
      go_loopw [4] (fun iv wq => ∃ k : Nat, k ≤ m ∧ iv = .int .i64 (k : Int) ∧ (∀ j, j < k → zs.getD j 0 = 1 ∨ zs.getD j 0 = 2) ∧ wq = wr) (fun iv _ => m - (intOf iv).toNat)
      case atStart => exact ⟨0, by omega, rfl, fun r hr => by omega, rfl⟩
      case round =>
        obtain ⟨k, hk, rfl, hok, hwq⟩ := hrel
        subst hwq
        have HOk : Hid (∀ j, j < k → zs.getD j 0 = 1 ∨ zs.getD j 0 = 2) := hok
        clear hok
        by_cases hkm : k < m
        · have hki : (k : Int) < m := by omega
          obtain ⟨x, rfl, f1⟩ := lies_at HL.out k (by rw [HM.out]; exact hkm)
          obtain ⟨u, hu⟩ : ∃ u, zs.getD k 0 = u := ⟨_, rfl⟩
          have HU : Hid (zs.getD k 0 = u) := hu
          rw [hu] at f1
          clear hu
          by_cases hu1 : u = 1
          · subst hu1
            have HN : Hid (∀ j, j < k + 1 → zs.getD j 0 = 1 ∨ zs.getD j 0 = 2) := fun j hj => by
              by_cases h : j < k
              · exact HOk.out j h
              · obtain rfl : j = k := by omega
                exact .inl HU.out
            go_wp2
            go_roundw
            case rel => exact ⟨k + 1, by omega, by go_num, HN.out, by trivial⟩
            case measure => simp [intOf]; omega
          · by_cases hu2 : u = 2
            · subst hu2
              have HN : Hid (∀ j, j < k + 1 → zs.getD j 0 = 1 ∨ zs.getD j 0 = 2) := fun j hj => by
                by_cases h : j < k
                · exact HOk.out j h
                · obtain rfl : j = k := by omega
                  exact .inr HU.out
              clear hu1
              go_wp2
              all_goals go_roundw
              all_goals first | exact ⟨k + 1, by omega, by go_num, HN.out, by trivial⟩ | (simp [intOf]; omega)
            · have hbf : B = false := by
                rw [Bool.eq_false_iff]
                intro hh
                have := (HBB.out.1 hh i hil).2.2 u (by rw [HZ.out, ← HU.out]; exact getD_mem (by rw [HM.out]; exact hkm))
                omega
              subst hbf
              have q1 : (u == 1) = false := by simpa using hu1
              have q2 : (u == 2) = false := by simpa using hu2
              go_wp2
              all_goals first | (go_ret; exact ⟨rfl, HK1.out⟩) | (exfalso; simp_all; done) | (exfalso; omega)
        · obtain rfl : k = m := by omega
          have hki : ¬ (k : Int) < k := by omega
          have HN : Hid (∀ r, r < i + 1 → 1 ≤ (Z r).length ∧ (Z r).length ≤ 4 ∧ ∀ k ∈ Z r, k = 1 ∨ k = 2) := fun r hr => by
            by_cases h : r < i
            · exact HO.out r h
            · obtain rfl : r = i := by omega
              rw [HZ.out, HM.out]
              refine ⟨by omega, by omega, fun v hv => ?_⟩
              obtain ⟨j, hj, rfl⟩ := List.getElem_of_mem hv
              have := HOk.out j (by rw [← HM.out]; exact hj)
              rw [List.getD_eq_getElem?_getD, List.getElem?_eq_getElem hj] at this
              exact this
          go_wp2
          go_roundw
          case rel => exact ⟨i + 1, by omega, by go_num, HN.out, by trivial⟩
          case measure => simp [intOf]; omega
    · obtain rfl : i = len := by omega
      have hii : ¬ (i : Int) < i := by omega
      have hbt : B = true := HBB.out.2 HO.out
      subst hbt
      go_wp2
      go_ret
      exact ⟨rfl, HK1.out⟩

end Go.Proofs.Ytfhpdcimdeilpaa.st
