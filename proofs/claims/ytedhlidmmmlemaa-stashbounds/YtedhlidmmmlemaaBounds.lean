/-
  Proved: for all operations the law StashBounds returns true; no condition.
-/
import Derived.Test.YtedhlidmmmlemaaLoc
import Derived.Test.YtedhlidmmmlemaaRows
import Derived.Deep.CutBlock
import Derived.Deep.RegionHeldLaw
namespace Go.Proofs.Ytedhlidmmmlemaa.stashBounds
open Go.ChangeShapes Go.WideShapes Go.ChangeAt Go.RowKit Go.Proofs.Ytedhlidmmmlemaa.hp Go.Proofs.Ytedhlidmmmlemaa.st
set_option linter.unusedVariables false
set_option linter.unusedSimpArgs false

/-- What Put makes of the length. -/
theorem put_n {L : List Bk} {m : Nat} {b : Bk} (h : okL L ∧ L.length ≤ m ∧ m ≤ 64) : (putA L b).length = (if decide (okB b) = true ∧ hasL L b.1 = false then L.length + 1 else L.length) := by
  unfold putA
  by_cases ho : okB b
  · rw [if_pos ho, put_len, decide_eq_true ho]
    cases hasL L b.1 <;> rfl
  · rw [if_neg ho, if_neg (fun e => ho (of_decide_eq_true e.1))]

set_option maxRecDepth 100000 in
set_option maxHeartbeats 16000000 in
theorem walk (w : World) (a1 : Option Addr) (m c1 : Nat) (O : Nat → OpA) (hO : OpsAt w a1 m O) (kk : m ≤ c1 ∧ c1 ≤ maxLen) :
    Calls Try.prog 4 #[.slice a1 m c1] w fun e w' => e = .returned (.bool true) ∧ Below w.heap.size w w' := by
  have k1 := kk.1
  have k2 := kk.2
  clear kk
  have HF := first_any
  have HO : Hid (OpsAt w a1 m O) := hO
  have HK : Hid (m ≤ c1 ∧ c1 ≤ maxLen) := ⟨k1, k2⟩
  have hmi : (m : Int) ≤ 9223372036854775807 := by unfold maxLen at k2; omega
  clear hO k1 k2
  go_enter Try.func4, Try.ntmps4
  go_wp2_with fail
  refine (HF w).mono ?_
  rintro e w1 ⟨rfl, k1'⟩
  go_wp2_with fail
  refine (new_any w1 (.slice none 0 0) [] (Bks.nil w1) (by simp)).mono ?_
  rintro e w2 ⟨p, F, rfl, S2, hF2, k2'⟩
  have HL0 : Hid (Lcs w p [] 0 w2) := ⟨F, S2, fun b hb => by have := hF2 b hb; have := k1'.size; omega, k1'.then k2'⟩
  have K2 : Hid (Chg no w w2) := k1'.then k2'
  clear S2 hF2 k1' k2'
  go_wp2_with fail
  refine (fewo_any w2 a1 m c1 O (OpsAt.same HO.out K2.out) HK.out.1 HK.out.2).mono ?_
  rintro e w3 ⟨b, rfl, hfew, rfl⟩
  cases b
  case false =>
    go_wp2_with fail
    refine (HF w3).mono ?_
    rintro e w4 ⟨rfl, k4⟩
    go_wp2
    go_ret
    exact ⟨rfl, (K2.out.then k4).below⟩
  have hm200 := hfew rfl
  have i3 : (m : Int) ≤ 200 := by omega
  clear hfew hmi
  go_wp2_with fail
  go_loopw [4] (fun i wr => ∃ (j : Nat) (L : List Bk) (mo : Nat), j ≤ m ∧ i = .int .i64 (j : Int) ∧ Lcs w p L mo wr) (fun i _ => m - (intOf i).toNat)
  case atStart => exact ⟨0, [], 0, by omega, rfl, HL0.out⟩
  case round =>
    clear HL0 K2
    obtain ⟨j, L, mo, hj, rfl, hA⟩ := hrel
    by_cases hjl : j < m
    · have hji : (j : Int) < m := by omega
      obtain ⟨x, rfl, e0, e1, e2, l2, b2⟩ := OpsAt.at HO.out hA.chg j hjl
      have l0 : Lies (Old w) w (.slice (O j).a (O j).d.length (O j).c) ((O j).d.map (Value.int .u8)) := by
        obtain ⟨_, _, _, _, _, l, _⟩ := HO.out j hjl
        exact l
      obtain ⟨⟨kind, id, ab, cb, zs⟩, hop⟩ : ∃ op, O j = op := ⟨_, rfl⟩
      rw [hop] at e0 e1 e2 l0 b2
      simp only at e0 e1 e2 l0 b2
      obtain ⟨q, hq⟩ : ∃ q, zs.length = q := ⟨_, rfl⟩
      rw [hq] at e2 l0
      have HV : Hid (Lies (Old w) w (.slice ab q cb) (zs.map (Value.int .u8)) ∧ Bytes zs ∧ zs.length = q) := ⟨l0, b2, hq⟩
      have HOK := hA.ok
      have hB := hA.box #[.int .i64 id, .slice ab q cb] 36
      have HE0 : Hid (∀ W, Chg no w W → W.cell? (x.add (j * 3)) = some (.int .i64 kind)) := by
        intro W k
        obtain ⟨x', ex, e, _⟩ := OpsAt.at HO.out k j hjl
        cases ex
        rw [hop] at e
        exact e
      have hne : (x.add (j * 3)).block ≠ wr.heap.size := by
        have := World.block_lt_of_cell? wr _ e0
        omega
      clear hop l0 b2 hq l2 hA
      obtain ⟨n, hn⟩ : ∃ n, L.length = n := ⟨_, rfl⟩
      have hn64 : n ≤ 64 := by have := HOK.1.len; omega
      have HN : Hid (L.length = n ∧ okL L ∧ L.length ≤ mo ∧ mo ≤ 64) := ⟨hn, HOK⟩
      obtain ⟨H, hH⟩ : ∃ H, hasL L id = H := ⟨_, rfl⟩
      have HH : Hid (hasL L id = H) := hH
      have hni : (n : Int) ≤ 64 := by omega
      obtain ⟨Q, hQ⟩ : ∃ Q, wr.heap.size = Q := ⟨_, rfl⟩
      have hB1 : LcsB w p L mo Q (.cells #[.int .i64 id, .slice ab q cb] 36 (0, 0)) (wr.alloc (.cells #[.int .i64 id, .slice ab q cb] 36)) := by rw [← hQ]; exact hB
      have HLen := hB1.len
      have HHas := hB1.has id
      rw [hn] at HLen
      rw [hH] at HHas
      obtain ⟨t0, t1, t2⟩ := hB1.cells
      have t3 := HE0.out _ hB1.chg
      simp only [hQ] at t2 hne
      clear hB hn hH HOK hn64
      go_wp2_with fail
      refine HLen.mono ?_
      rintro e w4' ⟨rfl, rfl⟩
      clear HLen
      go_wp2_with fail
      refine HHas.mono ?_
      rintro e w5 ⟨rfl, B5⟩
      obtain ⟨q0, q1, q2⟩ := B5.cells
      have q3 := HE0.out _ B5.chg
      have HB5 : Hid (LcsB w p L mo Q (.cells #[.int .i64 id, .slice ab q cb] 36 (0, 0)) w5) := B5
      clear HHas B5 hB1 e0 e1 e2 t0 t1 t2 t3
      go_upto_if 49 with fail
      go_cut [] from 48 to 107 (fun wc => ∃ (L' : List Bk) (m' : Nat), Lcs w p L' m' wc)
      case first =>
        by_cases hk : kind = 0
        · subst hk
          obtain ⟨B, hB⟩ : ∃ B, decide (okB (id, zs)) = B := ⟨_, rfl⟩
          obtain ⟨L2, hL2⟩ : ∃ L2, putA L (id, zs) = L2 := ⟨_, rfl⟩
          obtain ⟨m2, hm2⟩ : ∃ m2, mostA L mo (id, zs) = m2 := ⟨_, rfl⟩
          have hlen := put_n (b := (id, zs)) HN.out.2
          rw [hL2, hB, HN.out.1] at hlen
          simp only [HH.out] at hlen
          have HPut : Hid (∀ W, Chg no w5 W → Calls Try.prog 12 #[pt p, bv id ab q cb] W fun e w' => e = .returned (.bool B) ∧ LcsB w p L2 m2 Q (.cells #[.int .i64 id, .slice ab q cb] 36 (0, 0)) w') := by
            intro W k
            have := HB5.out.put id ab q cb zs HV.out.1 HV.out.2.1 HV.out.2.2 W k
            rw [hB, hL2, hm2] at this
            refine this.mono ?_
            rintro e w' ⟨rfl, h1, h2⟩
            exact ⟨rfl, h1⟩
          have HPutB : Hid (∀ W, Chg no w5 W → W.heap[w5.heap.size]? = some (.cells #[.int .i64 id, .slice ab q cb] 36 (0, 0)) → Calls Try.prog 12 #[pt p, bv id ab q cb] W fun e w' => e = .returned (.bool B) ∧ LcsB w p L2 m2 Q (.cells #[.int .i64 id, .slice ab q cb] 36 (0, 0)) w' ∧ w'.heap[w5.heap.size]? = some (.cells #[.int .i64 id, .slice ab q cb] 36 (0, 0))) := by
            intro W k hW
            have := HB5.out.put id ab q cb zs HV.out.1 HV.out.2.1 HV.out.2.2 W k
            rw [hB, hL2, hm2] at this
            refine this.mono ?_
            rintro e w' ⟨rfl, h1, h2⟩
            exact ⟨rfl, h1, h2 _ _ (Nat.le_refl _) hW⟩
          have HMay : Hid (∀ W g, LcsB w p L2 m2 Q (.cells #[.int .i64 id, .slice ab q cb] 36 (0, 0)) W → W.heap[g]? = some (.cells #[.int .i64 id, .slice ab q cb] 36 (0, 0)) → Calls Try.prog 27 #[.slice (some ⟨g, 0, none⟩) 1 1] W fun e w' => e = .returned (.bool B) ∧ LcsB w p L2 m2 Q (.cells #[.int .i64 id, .slice ab q cb] 36 (0, 0)) w') := by
            intro W g k hg
            have := may_built w id ab q cb zs HV.out.1 HV.out.2.1 W g k.chg hg
            rw [hB] at this
            refine this.mono ?_
            rintro e w' ⟨rfl, k'⟩
            exact ⟨rfl, k.same k'⟩
          obtain ⟨n2, hn2⟩ : ∃ n2, L2.length = n2 := ⟨_, rfl⟩
          have HLen2 : Hid (∀ W, LcsB w p L2 m2 Q (.cells #[.int .i64 id, .slice ab q cb] 36 (0, 0)) W → Calls Try.prog 19 #[pt p] W fun e w' => e = .returned (.int .i64 (n2 : Nat)) ∧ w' = W) := by
            intro W k
            have := k.len
            rwa [hn2] at this
          rw [hn2] at hlen
          clear hB hL2 hm2 hn2 HB5 HH HN HV HE0 HO HK hm200 i3 HF hjl hj hji
          have hc : (B = true ∧ H = false ∧ ((n2 : Int) != (n : Int) + 1) = false) ∨ (B = true ∧ H = true ∧ ((n2 : Int) != (n : Int) + 1) = true ∧ ((n2 : Int) != (n : Int)) = false) ∨ (B = false ∧ H = true ∧ ((n2 : Int) != (n : Int)) = false) ∨ (B = false ∧ H = false) := by
            cases B <;> cases H <;> simp at hlen <;> subst hlen <;> simp <;> omega
          clear hlen
          have hwn : IntKind.i64.wrap ((n : Int) + 1) = (n : Int) + 1 := by rw [IntKind.wrap_i64]; omega
          rcases hc with ⟨rfl, rfl, g1⟩ | ⟨rfl, rfl, g1, g2⟩ | ⟨rfl, rfl, g2⟩ | ⟨rfl, rfl⟩
          · as_aux_lemma =>
              go_wp2_with fail
              (first
                | go_region_held_law (fun w' => w'.cell? ⟨Q, 0, none⟩ = some (.int .i64 id) ∧ w'.cell? ⟨Q, 1, none⟩ = some (.slice ab q cb)) (first | exact ⟨u0, u1⟩ | exact ⟨s0, s1⟩ | exact ⟨r0, r1⟩ | exact ⟨q0, q1⟩ | go_keep)
                    (first
                      | (go_at_call 12; refine (HPutB.out _ ?_ ?_).mono ?_; exact ((Chg.refl no w5).alloc _).drew; exact heap_alloc_new w5 _; rintro e w6 ⟨rfl, K6, g6⟩; obtain ⟨r0, r1, r2⟩ := K6.cells)
                      | (go_at_call 12; refine (HPut.out _ ?_).mono ?_; exact (Chg.refl no w5).drew; rintro e w6 ⟨rfl, K6⟩; obtain ⟨r0, r1, r2⟩ := K6.cells)
                      | (go_at_call 27; refine (HMay.out _ _ (K7.same ((Chg.refl no w7).alloc _)) (heap_alloc_new w7 _)).mono ?_; rintro e w8 ⟨rfl, K8⟩; obtain ⟨u0, u1, u2⟩ := K8.cells)
                      | (go_at_call 27; refine (HMay.out _ _ K6 g6).mono ?_; rintro e w7 ⟨rfl, K7⟩; obtain ⟨s0, s1, s2⟩ := K7.cells)
                      | (go_at_call 27; refine (HMay.out _ _ (K6.same ((Chg.refl no w6).alloc _)) (heap_alloc_new w6 _)).mono ?_; rintro e w7 ⟨rfl, K7⟩; obtain ⟨s0, s1, s2⟩ := K7.cells)
                      | (go_at_call 19; refine (HLen2.out _ K8).mono ?_; rintro e w9 ⟨rfl, rfl⟩))
                | fail)
              all_goals (go_wp2; go_meet; case rel => exact ⟨L2, m2, K8.drop⟩)
          · as_aux_lemma =>
              go_wp2_with fail
              (first
                | go_region_held_law (fun w' => w'.cell? ⟨Q, 0, none⟩ = some (.int .i64 id) ∧ w'.cell? ⟨Q, 1, none⟩ = some (.slice ab q cb)) (first | exact ⟨u0, u1⟩ | exact ⟨s0, s1⟩ | exact ⟨r0, r1⟩ | exact ⟨q0, q1⟩ | go_keep)
                    (first
                      | (go_at_call 12; refine (HPutB.out _ ?_ ?_).mono ?_; exact ((Chg.refl no w5).alloc _).drew; exact heap_alloc_new w5 _; rintro e w6 ⟨rfl, K6, g6⟩; obtain ⟨r0, r1, r2⟩ := K6.cells)
                      | (go_at_call 12; refine (HPut.out _ ?_).mono ?_; exact (Chg.refl no w5).drew; rintro e w6 ⟨rfl, K6⟩; obtain ⟨r0, r1, r2⟩ := K6.cells)
                      | (go_at_call 27; refine (HMay.out _ _ (K7.same ((Chg.refl no w7).alloc _)) (heap_alloc_new w7 _)).mono ?_; rintro e w8 ⟨rfl, K8⟩; obtain ⟨u0, u1, u2⟩ := K8.cells)
                      | (go_at_call 27; refine (HMay.out _ _ K6 g6).mono ?_; rintro e w7 ⟨rfl, K7⟩; obtain ⟨s0, s1, s2⟩ := K7.cells)
                      | (go_at_call 27; refine (HMay.out _ _ (K6.same ((Chg.refl no w6).alloc _)) (heap_alloc_new w6 _)).mono ?_; rintro e w7 ⟨rfl, K7⟩; obtain ⟨s0, s1, s2⟩ := K7.cells)
                      | (go_at_call 19; refine (HLen2.out _ K8).mono ?_; rintro e w9 ⟨rfl, rfl⟩))
                | fail)
              all_goals (go_wp2; go_meet; case rel => exact ⟨L2, m2, K8.drop⟩)
          · as_aux_lemma =>
              go_wp2_with fail
              (first
                | go_region_held_law (fun w' => w'.cell? ⟨Q, 0, none⟩ = some (.int .i64 id) ∧ w'.cell? ⟨Q, 1, none⟩ = some (.slice ab q cb)) (first | exact ⟨u0, u1⟩ | exact ⟨s0, s1⟩ | exact ⟨r0, r1⟩ | exact ⟨q0, q1⟩ | go_keep)
                    (first
                      | (go_at_call 12; refine (HPutB.out _ ?_ ?_).mono ?_; exact ((Chg.refl no w5).alloc _).drew; exact heap_alloc_new w5 _; rintro e w6 ⟨rfl, K6, g6⟩; obtain ⟨r0, r1, r2⟩ := K6.cells)
                      | (go_at_call 12; refine (HPut.out _ ?_).mono ?_; exact (Chg.refl no w5).drew; rintro e w6 ⟨rfl, K6⟩; obtain ⟨r0, r1, r2⟩ := K6.cells)
                      | (go_at_call 27; refine (HMay.out _ _ (K7.same ((Chg.refl no w7).alloc _)) (heap_alloc_new w7 _)).mono ?_; rintro e w8 ⟨rfl, K8⟩; obtain ⟨u0, u1, u2⟩ := K8.cells)
                      | (go_at_call 27; refine (HMay.out _ _ K6 g6).mono ?_; rintro e w7 ⟨rfl, K7⟩; obtain ⟨s0, s1, s2⟩ := K7.cells)
                      | (go_at_call 27; refine (HMay.out _ _ (K6.same ((Chg.refl no w6).alloc _)) (heap_alloc_new w6 _)).mono ?_; rintro e w7 ⟨rfl, K7⟩; obtain ⟨s0, s1, s2⟩ := K7.cells)
                      | (go_at_call 19; refine (HLen2.out _ K8).mono ?_; rintro e w9 ⟨rfl, rfl⟩))
                | fail)
              all_goals (go_wp2; go_meet; case rel => exact ⟨L2, m2, K8.drop⟩)
          · as_aux_lemma =>
              go_wp2_with fail
              (first
                | go_region_held_law (fun w' => w'.cell? ⟨Q, 0, none⟩ = some (.int .i64 id) ∧ w'.cell? ⟨Q, 1, none⟩ = some (.slice ab q cb)) (first | exact ⟨u0, u1⟩ | exact ⟨s0, s1⟩ | exact ⟨r0, r1⟩ | exact ⟨q0, q1⟩ | go_keep)
                    (first
                      | (go_at_call 12; refine (HPutB.out _ ?_ ?_).mono ?_; exact ((Chg.refl no w5).alloc _).drew; exact heap_alloc_new w5 _; rintro e w6 ⟨rfl, K6, g6⟩; obtain ⟨r0, r1, r2⟩ := K6.cells)
                      | (go_at_call 12; refine (HPut.out _ ?_).mono ?_; exact (Chg.refl no w5).drew; rintro e w6 ⟨rfl, K6⟩; obtain ⟨r0, r1, r2⟩ := K6.cells)
                      | (go_at_call 27; refine (HMay.out _ _ (K7.same ((Chg.refl no w7).alloc _)) (heap_alloc_new w7 _)).mono ?_; rintro e w8 ⟨rfl, K8⟩; obtain ⟨u0, u1, u2⟩ := K8.cells)
                      | (go_at_call 27; refine (HMay.out _ _ K6 g6).mono ?_; rintro e w7 ⟨rfl, K7⟩; obtain ⟨s0, s1, s2⟩ := K7.cells)
                      | (go_at_call 27; refine (HMay.out _ _ (K6.same ((Chg.refl no w6).alloc _)) (heap_alloc_new w6 _)).mono ?_; rintro e w7 ⟨rfl, K7⟩; obtain ⟨s0, s1, s2⟩ := K7.cells)
                      | (go_at_call 19; refine (HLen2.out _ K8).mono ?_; rintro e w9 ⟨rfl, rfl⟩))
                | fail)
              all_goals (go_wp2; go_meet; case rel => exact ⟨L2, m2, K8.drop⟩)
        · have hkb : (kind == 0) = false := by simpa using hk
          have HT := HB5.out.take id
          have hdl := del_len (L := L) id
          rw [HH.out, HN.out.1] at hdl
          rw [HH.out] at HT
          obtain ⟨⟨gi, gd⟩, hG⟩ : ∃ G, getL L id = G := ⟨_, rfl⟩
          rw [hG] at HT
          obtain ⟨gl, hgl⟩ : ∃ gl, gd.length = gl := ⟨_, rfl⟩
          simp only [hgl] at HT
          obtain ⟨L2, hL2⟩ : ∃ L2, delL L id = L2 := ⟨_, rfl⟩
          have hh2 : hasL L2 id = false := by
            cases e : hasL L2 id
            · rfl
            · obtain ⟨b, hb, hb2⟩ := (has_iff (by rw [← hL2]; exact srt_del HN.out.2.1.1 id) id).1 e
              rw [← hL2] at hb
              exact (((mem_del HN.out.2.1.1 id b).1 hb).2 hb2).elim
          rw [hL2] at HT hdl
          obtain ⟨n2, hn2⟩ : ∃ n2, L2.length = n2 := ⟨_, rfl⟩
          rw [hn2] at hdl
          have HL2 : Hid (L2.length = n2 ∧ hasL L2 id = false) := ⟨hn2, hh2⟩
          have hn1 : H = true → 1 ≤ n := by
            intro e
            subst e
            have := (has_at HH.out).1
            rw [HN.out.1] at this
            omega
          clear hG hgl hL2 hn2 hh2 HB5 HH HN HV HE0 HO HK hm200 i3 HF hjl hj hji
          cases H
          case false =>
            simp at hdl
            subst hdl
            go_wp2_with fail
            refine HT.mono ?_
            rintro e w6 ⟨ta, tc, rfl, B6⟩
            obtain ⟨r0, r1, r2⟩ := B6.cells
            have B7 := B6.same ((Chg.refl no w6).alloc (.cells #[.int .i64 gi, .slice ta gl tc] 36))
            have HHas := B7.has id
            rw [HL2.out.2] at HHas
            have rq : Q ≠ w6.heap.size := by omega
            have r4 := B7.cells.1
            clear HT
            go_wp2_with fail
            refine HHas.mono ?_
            rintro e w8 ⟨rfl, B8⟩
            have HB8 : Hid (∃ (L' : List Bk) (m' : Nat), Lcs w p L' m' w8) := ⟨_, _, B8.drop⟩
            clear HHas B8 B7 B6
            go_wp2
            go_meet
            case rel => exact HB8.out
          case true =>
            simp at hdl
            have hn := hn1 rfl
            have hni2 : (n2 : Int) = (n : Int) - 1 := by omega
            go_wp2_with fail
            refine HT.mono ?_
            rintro e w6 ⟨ta, tc, rfl, B6⟩
            obtain ⟨r0, r1, r2⟩ := B6.cells
            have B7 := B6.same ((Chg.refl no w6).alloc (.cells #[.int .i64 gi, .slice ta gl tc] 36))
            have HHas := B7.has id
            rw [HL2.out.2] at HHas
            have rq : Q ≠ w6.heap.size := by omega
            have r4 := B7.cells.1
            clear HT
            go_wp2_with fail
            refine HHas.mono ?_
            rintro e w8 ⟨rfl, B8⟩
            have HLn := B8.len
            rw [HL2.out.1] at HLn
            have HB8 : Hid (∃ (L' : List Bk) (m' : Nat), Lcs w p L' m' w8) := ⟨_, _, B8.drop⟩
            clear HHas B8 B7 B6
            go_wp2_with fail
            refine HLn.mono ?_
            rintro e w9 ⟨rfl, rfl⟩
            clear HLn
            go_wp2
            go_meet
            case rel => exact HB8.out
      case rest =>
        obtain ⟨L', m', hA⟩ := hcut
        obtain ⟨w5', hw5'⟩ : ∃ x, x = wc := ⟨_, rfl⟩
        subst hw5'
        have HOK' := hA.ok
        have HI := hA.ids
        obtain ⟨n', hn'⟩ : ∃ n', L'.length = n' := ⟨_, rfl⟩
        have hn64 : n' ≤ 64 := by have := HOK'.1.len; omega
        have hm2 : n' ≤ m' := by omega
        have HS' : Hid (∀ k, k + 1 < n' → (L'.map (·.1)).getD k 0 < (L'.map (·.1)).getD (k + 1) 0) := by
          intro k hk
          have := srt_get HOK'.1.1 k (k + 1) (by omega) (by omega)
          rw [List.getD_eq_getElem?_getD, List.getD_eq_getElem?_getD, List.getElem?_map, List.getElem?_map]
          rw [List.getD_eq_getElem?_getD, List.getD_eq_getElem?_getD] at this
          rw [List.getElem?_eq_getElem (show k < L'.length by omega), List.getElem?_eq_getElem (show k + 1 < L'.length by omega)] at this ⊢
          exact this
        obtain ⟨ids, hids⟩ : ∃ ids, L'.map (·.1) = ids := ⟨_, rfl⟩
        have hidl : ids.length = n' := by rw [← hids, List.length_map, hn']
        have HID : Hid (ids.length = n') := hidl
        rw [hids] at HS' HI
        rw [hn'] at HI
        have hni' : (n' : Int) ≤ 64 := by omega
        have hmi' : (n' : Int) ≤ (m' : Int) := by omega
        have HLn : Hid (∀ W, Lcs w p L' m' W → (Calls Try.prog 19 #[pt p] W fun e w' => e = .returned (.int .i64 (n' : Nat)) ∧ w' = W) ∧ (Calls Try.prog 20 #[pt p] W fun e w' => e = .returned (.int .i64 (m' : Nat)) ∧ w' = W)) := by
          intro W h
          have h1 := h.len
          rw [hn'] at h1
          exact ⟨h1, h.most⟩
        clear hA HOK' hn' hids hidl HB5 HH HN HV HE0 q0 q1 q2 q3 hm2 hn64
        go_wp2_with fail
        refine HI.mono ?_
        rintro e w6 ⟨ia, ic, rfl, lI, hA6⟩
        have HLI : Hid (Lies (Old w6) w6 (.slice ia n' ic) (ids.map (Value.int .i64))) := lI
        have HA6 : Hid (Lcs w p L' m' w6) := hA6
        clear HI lI hA6
        go_wp2_with fail
        have hk1 : (1 : Int) ≤ 64 := by omega
        have HIX : Hid (∀ wr', Chg no w6 wr' → ∀ k, k < n' → ∃ y, ia = some y ∧ wr'.cell? (y.add k) = some (.int .i64 (ids.getD k 0))) := by
          obtain ⟨x', c', hx', hcell⟩ := HLI.out.slice
          have hx2 : ia = x' := by injection hx'
          intro wr' kw k hk
          obtain ⟨y, hy, _, hy3⟩ := hcell k (.int .i64 (ids.getD k 0)) (by rw [List.getElem?_map, List.getD_eq_getElem?_getD, List.getElem?_eq_getElem (by have := HID.out; omega)]; rfl)
          exact ⟨y, by rw [hx2, hy], kw.cell hy3 (fun h => h)⟩
        clear HLI
        go_loopw [11] (fun i wr' => ∃ (k : Nat), 1 ≤ k ∧ (k ≤ n' ∨ k = 1) ∧ i = .int .i64 (k : Int) ∧ Chg no w6 wr') (fun i _ => 100 - (intOf i).toNat)
        case atStart => exact ⟨1, by omega, .inr rfl, rfl, Chg.refl no w6⟩
        case round =>
          obtain ⟨k, g1, g3, rfl, kC⟩ := hrel
          have HKC : Hid (Chg no w6 wr) := kC
          by_cases hkl : k < n'
          · have hki : (k : Int) < n' := by omega
            obtain ⟨y, rfl, d0⟩ := HIX.out wr kC k hkl
            obtain ⟨y', e', d1⟩ := HIX.out wr kC (k - 1) (by omega)
            obtain rfl : y = y' := by injection e'
            have hle := HS'.out (k - 1) (by omega)
            rw [show k - 1 + 1 = k by omega] at hle
            obtain ⟨I, hI⟩ : ∃ I, ids.getD k 0 = I := ⟨_, rfl⟩
            obtain ⟨I1, hI1⟩ : ∃ I, ids.getD (k - 1) 0 = I := ⟨_, rfl⟩
            rw [hI] at d0 hle
            rw [hI1] at d1 hle
            have hng : decide (I ≤ I1) = false := by simpa using hle
            have wr1 : IntKind.i64.wrap ((k : Int) - 1) = (k : Int) - 1 := by rw [IntKind.wrap_i64]; omega
            have tn1 : ((k : Int) - 1).toNat = k - 1 := by omega
            have lt1 : (k : Int) - 1 < n' := by omega
            have nn1 : (0 : Int) ≤ (k : Int) - 1 := by omega
            clear kC hI hI1 e'
            go_wp2_with fail
            go_quiet (fail)
            go_wp2
            go_roundw
            case rel => exact ⟨k + 1, by omega, .inl (by omega), by go_num, HKC.out.drewN _⟩
            case measure => simp [intOf]; omega
          · have hki : (n' : Int) ≤ k := by omega
            have HA7 : Hid (Lcs w p L' m' wr) := by
              obtain ⟨F, h1, h2, h3⟩ := HA6.out
              exact ⟨F, h1.same kC, h2, h3.then kC⟩
            have HL1 := (HLn.out _ HA7.out).1
            have HL2 := (HLn.out _ HA7.out).1
            have HL3 := (HLn.out _ HA7.out).2
            have HL4 := (HLn.out _ HA7.out).1
            have hgt : decide ((n' : Int) > 64) = false := by simp; omega
            have hlt : decide ((m' : Int) < (n' : Int)) = false := by simp; omega
            clear kC
            go_wp2_with fail
            refine HL1.mono ?_
            rintro e w7 ⟨rfl, rfl⟩
            clear HL1
            go_wp2_with fail
            refine HL2.mono ?_
            rintro e w7 ⟨rfl, rfl⟩
            clear HL2
            go_wp2_with fail
            refine HL3.mono ?_
            rintro e w7 ⟨rfl, rfl⟩
            clear HL3
            go_wp2_with fail
            refine HL4.mono ?_
            rintro e w7 ⟨rfl, rfl⟩
            clear HL4
            go_wp2
            go_roundw
            case rel => exact ⟨j + 1, L', m', by omega, by go_num, HA7.out⟩
            case measure => simp [intOf]; omega
    · obtain rfl : j = m := by omega
      have hji : (j : Int) ≤ (j : Int) := by omega
      have HK2 : Hid (Chg no w wr) := hA.chg
      clear hA
      go_wp2_with fail
      refine (HF wr).mono ?_
      rintro e w9 ⟨rfl, k9⟩
      go_wp2
      go_ret
      exact ⟨rfl, (HK2.out.then k9).below⟩

theorem own : ownKnob Try.prog.godebug = none := by kernel_rfl
theorem laidOut : laidOutB Try.prog = true := by kernel_rfl

set_option maxRecDepth 100000 in
theorem lifted (os : Os) (started : os.Started) (H : Type) (enc : TypeId × Value → H) :
    ReturnsInHanded {} Try.checked os 4 .any (Rows.stashBoundsSpec.pre6 enc Try.prog Try.f4 Rows.stashBoundsRow.domain false) (Rows.stashBoundsSpec.post enc Try.prog Try.f4 false true false false) := by
  refine returnsInHanded_of_change (C := Try.checked) own started (by kernel_rfl) Try.func4
    (ChangeSpec.witness6 (enc := enc) (C := Try.checked) false ⟨#[], #[.slice none 0 0], []⟩ 8 (by kernel_rfl) (by kernel_rfl) (by kernel_rfl) (by kernel_rfl)) ?_
  intro W base args ds gs before hval0 hW hcnd _
  have hval : ∀ (j : Nat) t v, Try.f4.params[j]? = some t → args[j]? = some v → Value.okWide Try.prog W .any base t v := hval0
  have hW' := hW
  obtain ⟨p, q, hA0, hV, rfl, hfz, hnd⟩ := hW
  have hA : DataW.TrodAll enc Try.prog W 0 (fun _ => true) true Try.f4.params.toList args.toList ds p := hA0
  rw [Try.params4] at hA hval
  obtain ⟨v0, vs0, d0, ds0, p0, q0, hargs, rfl, rfl, h0, r0⟩ := trodAll_cons hA
  obtain ⟨rfl, rfl, rfl⟩ := trodAll_nil r0
  obtain rfl : args = #[v0] := by cases args; simp_all
  obtain ⟨rfl, rfl⟩ := trodVars_none hV
  obtain ⟨a0, len0, cap0, rfl⟩ := okWide_slice Try.underlying23 (hval 0 23 v0 rfl rfl)
  have k0 := h0
  have lt0 : ∀ x ∈ p0, x.block < W.heap.size := by obtain ⟨m, hm⟩ := k0; exact DataW.trod_lt m _ _ _ hm
  have c0 : len0 ≤ cap0 ∧ cap0 ≤ maxLen := by obtain ⟨m, hm⟩ := k0; exact open_cap Try.underlying23 hm
  obtain ⟨z0, w0⟩ := (by obtain ⟨fuel, hf⟩ := h0; exact open_ops hf : ∃ z : Nat → OpA, OpsAt W a0 len0 z)
  clear hA0 hval0
  refine (walk W a0 len0 cap0 z0 w0 c0).mono fun e W' ⟨he, bel⟩ => ?_
  subst he
  exact ⟨_, rfl, _, _, _, [], _, [], hW', trodAll_mk1 (shut_bool Try.underlying4 _), (trodAll_cons_mk (Below.trod laidOut (by kernel_rfl) (of_decide_eq_true (by kernel_rfl)) k0 bel lt0) trodAll_mk0), rfl, bel.frame _, fun h => by cases h⟩

theorem over : Rows.stashBoundsRow.holds Try.pinned (OpenSpec.ofChange Rows.stashBoundsSpec) :=
  OpenClaim.holds_of_wide 4 Try.f4 rfl rfl rfl rfl rfl rfl rfl ⟨rfl, rfl, rfl, rfl, rfl⟩ rfl rfl rfl rfl rfl (by kernel_rfl) Try.func4 (by kernel_rfl)
    (of_decide_eq_true (by kernel_rfl)) (by unfold Func.isWrapper; first | (rw [if_pos (by decide +kernel)]; kernel_rfl) | (rw [if_neg (by decide +kernel)]; exact ⟨rfl, rfl⟩))
    (fun os started H enc _ => lifted os started H enc)

theorem proved : Rows.StashBoundsSaid := over
end Go.Proofs.Ytedhlidmmmlemaa.stashBounds
namespace Go.Proofs.Ytedhlidmmmlemaa
theorem stashBounds_holds : Rows.StashBoundsSaid := stashBounds.proved
#print axioms stashBounds_holds
end Go.Proofs.Ytedhlidmmmlemaa
