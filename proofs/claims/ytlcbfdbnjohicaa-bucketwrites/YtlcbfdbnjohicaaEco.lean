/- Contract of Encode. -/
import Derived.Test.YtlcbfdbnjohicaaEcs
namespace Go.Proofs.Ytlcbfdbnjohicaa.st
open Go.ChangeShapes Go.WideShapes Go.ChangeAt Go.RowKit Go.Proofs.Ytlcbfdbnjohicaa.hp Go.Proofs.Ytlcbfdbnjohicaa.dg
set_option linter.unusedVariables false

/-- The blocks of memory that are new since w. -/
def Anew (w : World) : Nat → Prop := fun k => w.heap.size ≤ k

/-- What Encode answers. -/
def EncR (R : List Int × Int) (w : World) (e : Ending) (w' : World) : Prop := ∃ v, e = .returned (.tuple #[v, .int .i64 R.2]) ∧ Lies (Anew w) w' v (R.1.map (Value.int .u8)) ∧ Chg no w w'

theorem EncR.none {w w' : World} {z : Int} {l : List Bk} {er : Int} (he : encL z l = ([], er)) (k : Chg no w w') : EncR (encL z l) w (.returned (.tuple #[.slice none 0 0, .int .i64 er])) w' := by
  rw [he]
  exact ⟨_, rfl, .inl ⟨rfl, rfl⟩, k⟩

set_option maxHeartbeats 4000000 in
theorem encode_any (w : World) (z : Int) (v : Value) (xs : List BV) (h : Bks w v xs) (hx : xs.length ≤ 100000) :
    Calls Try.prog 10 #[.int .i64 z, v] w (EncR (encL z (abs xs)) w) := by
  have HS := isSize_any w z
  have HM := may_any w v xs h hx
  obtain ⟨a, cap, rfl⟩ := h.slice
  by_cases hz : 1 ≤ z ∧ z ≤ 4
  · have hzz : isZ z = true := decide_eq_true hz
    rw [hzz] at HS
    by_cases hm : mayP (abs xs)
    · have hmm : mayL (abs xs) = true := decide_eq_true hm
      rw [hmm] at HM
      have HOK : Hid (∀ b ∈ abs xs, okB b) := hm.1
      have HO : Hid (Bks w (.slice a xs.length cap) xs) := h
      have HR : Hid (∀ w', z < (xs.length : Int) → Chg no w w' → EncR (encL z (abs xs)) w (.returned (.tuple #[.slice none 0 0, .int .i64 4])) w') := by
        intro w' hl k
        refine EncR.none ?_ k
        unfold encL
        rw [if_pos ⟨hz.1, hz.2, hm⟩, if_neg (by rw [abs_len]; omega)]
      obtain ⟨Z, rfl⟩ := Int.eq_ofNat_of_zero_le (show 0 ≤ z by omega)
      have HT : Hid (∀ v' w', (xs.length : Int) ≤ (Z : Int) → Lies (Anew w) w' v' ((fill (bodyB (abs xs)) (38 * Z)).map (Value.int .u8)) → Chg no w w' → EncR (encL Z (abs xs)) w (.returned (.tuple #[v', .int .i64 0])) w') := by
        intro v' w' hl hL k
        have e := enc_of (z := (Z : Int)) (l := abs xs) hz.1 hz.2 hm (by rw [abs_len]; exact hl)
        rw [e]
        exact ⟨v', rfl, by simpa using hL, k⟩
      have HB : Hid ((bodyB (abs xs)).length = 38 * xs.length) := by
        rw [Hid, body_length hm.1, abs_len]
      have HLn : Hid (∀ W, Calls Try.prog 16 #[.int .i64 (Z : Int)] W fun e w' => e = .returned (.int .i64 ((38 * Z : Nat) : Int)) ∧ w' = W) := by
        intro W
        have := length_any W Z
        unfold lenL at this
        rw [if_pos hz] at this
        have e : (Z : Int) * 38 = ((38 * Z : Nat) : Int) := by omega
        rw [e] at this
        exact this
      obtain ⟨n, hn⟩ : ∃ n, xs.length = n := ⟨_, rfl⟩
      have HL : Hid (xs.length = n) := hn
      rw [hn] at HO hx HR HT HB HM ⊢
      have hz4 : Z ≤ 4 := by omega
      have hz1 : 1 ≤ Z := by omega
      obtain ⟨N, hN⟩ : ∃ N, 38 * Z = N := ⟨_, rfl⟩
      rw [hN] at HT HLn
      have hN1 : (N : Int) ≤ 1048576 := by omega
      have HN : Hid (38 * Z = N) := hN
      have hni : (n : Int) ≤ 100000 := by omega
      clear h hn hm hmm hz hzz hN
      go_enter Try.func10, Try.ntmps10
      go_wp2_with fail
      refine HS.mono ?_
      rintro e w0 ⟨rfl, rfl⟩
      clear HS
      go_wp2_with fail
      refine HM.mono ?_
      rintro e w1 ⟨rfl, k1⟩
      clear HM
      have HK1 : Hid (Chg no w0 w1) := k1
      have H0 : Hid (LW (w1.alloc (.cells #[.slice none 0 0, .bool false] 50)) w1.heap.size (bodyB ((abs xs).take 0), false) (w1.alloc (.cells #[.slice none 0 0, .bool false] 50))) := LW.new w1
      have HK4 : Hid (Chg no w0 (w1.alloc (.cells #[.slice none 0 0, .bool false] 50))) := k1.alloc _
      have hp : w0.heap.size ≤ w1.heap.size := k1.size
      clear k1
      go_wp2_with fail
      obtain ⟨w4, hw4⟩ : ∃ w4, w1.alloc (.cells #[.slice none 0 0, .bool false] 50) = w4 := ⟨_, rfl⟩
      obtain ⟨p, hpp⟩ : ∃ p, w1.heap.size = p := ⟨_, rfl⟩
      simp only [hw4, hpp] at H0 HK4 hp ⊢
      go_loopw [19] (fun i wr => ∃ k : Nat, k ≤ n ∧ i = .int .i64 (k : Int) ∧ LW w4 p (bodyB ((abs xs).take k), false) wr) (fun i _ => n - (intOf i).toNat)
      case atStart => exact ⟨0, by omega, rfl, H0.out⟩
      case round =>
        clear H0
        obtain ⟨k, hk, rfl, hW⟩ := hrel
        have HW : Hid (LW w4 p (bodyB ((abs xs).take k), false) wr) := hW
        have hC := hW.chg HK4.out hp
        have hpr := hW.1.lt p hW.1.fp
        clear hW
        by_cases hkn : k < n
        · have hki : (k : Int) < n := by omega
          have q1 : k < (abs xs).length := by rw [abs_len, HL.out]; exact hkn
          obtain ⟨y, ab, cb, rfl, e0, e1, hv, _, _, o1, n1⟩ := (HO.out.later hC).at k (by rw [HL.out]; exact hkn)
          have HST := body_step (abs xs) k q1
          have hok : okB ((abs xs).getD k dBk) := HOK.out _ (by rw [List.getD_eq_getElem?_getD, List.getElem?_eq_getElem q1]; exact List.getElem_mem _)
          have hlen : (bodyB ((abs xs).take k)).length = 38 * k := by
            rw [body_length (fun b hb => HOK.out b (List.mem_of_mem_take hb)), List.length_take]
            omega
          have hmem : xs.getD k dBV ∈ xs := by
            rw [List.getD_eq_getElem?_getD, List.getElem?_eq_getElem (by rw [HL.out]; exact hkn)]
            exact List.getElem_mem _
          obtain ⟨dl, db⟩ := HO.out.dat _ hmem
          rw [abs_getD] at HST hok
          obtain ⟨⟨i1, v1, d1⟩, hx1⟩ : ∃ X, xs.getD k dBV = X := ⟨_, rfl⟩
          rw [hx1] at e0 e1 hv HST hok dl db
          simp only [BV.bk] at e0 e1 hv HST hok dl db
          subst hv
          obtain ⟨ok1, ok2, ok3⟩ := hok
          simp only at ok1 ok2 ok3
          have HNUM : Hid (∀ W1 g, Chg no wr W1 → W1.heap[g]? = some (.cells #[.int .i64 (i1 + 1)] 3 (0, 0)) → wr.heap.size ≤ g → Calls Try.prog 23 #[.pointer (some ⟨p, 0, none⟩), .int .i64 1, .slice (some ⟨g, 0, none⟩) 1 1] W1 fun e w5 => e = .returned (.pointer (some ⟨p, 0, none⟩)) ∧ Mid w4 p (bodyB ((abs xs).take k) ++ [i1 + 1], false) wr W1 w5) :=
            fun W1 g k1 hg hgn => HW.out.num (by omega) k1 i1 ok1 ok2 hg hgn
          have HRAW : Hid (∀ W1 w5 W2 g, Mid w4 p (bodyB ((abs xs).take k) ++ [i1 + 1], false) wr W1 w5 → Chg no w5 W2 → W2.heap[g]? = some (.cells #[.slice ab 37 cb] 25 (0, 0)) → wr.heap.size ≤ g → (g < W1.heap.size ∨ w5.heap.size ≤ g) → Calls Try.prog 24 #[.pointer (some ⟨p, 0, none⟩), .slice (some ⟨g, 0, none⟩) 1 1] W2 fun e w' => e = .returned (.pointer (some ⟨p, 0, none⟩)) ∧ LW w4 p (bodyB ((abs xs).take (k + 1)), false) w') := by
            intro W1 w5 W2 g hM k2 hg hgn hg2
            rw [HST, show bodyB ((abs xs).take k) ++ (i1 + 1) :: d1 = (bodyB ((abs xs).take k) ++ [i1 + 1]) ++ d1 by simp]
            exact HW.out.raws HK4.out hp hM k2 dl (by simp; omega) (by rw [ok3]; exact hg) hgn hg2
          rw [ok3] at e1
          have hwr : IntKind.i64.wrap (i1 + 1) = i1 + 1 := by simp [IntKind.wrap, IntKind.bits, IntKind.signed]; omega
          clear HST hlen hx1 hmem dl db q1 ok3
          have hC' : Hid (Chg no w0 wr) := hC
          clear hC
          go_wp2_with fail
          go_region_with (first
            | (go_at_call 23; refine (HNUM.out _ _ ?_ ?_ ?_).mono ?_; (first | exact (((Chg.refl no wr).alloc _).alloc _).drew | exact ((((Chg.refl no wr).alloc _).alloc _).alloc _).drew); (first | exact heap2 _ _ _ | exact heap3 _ _ _ _ | exact heap3b _ _ _ _); omega; rintro e w5 ⟨rfl, hM5⟩; obtain ⟨cc5, ff5⟩ := row_cell (xs := [_, _]) (hM5.keep hpr (by first | exact heap1 wr _ _ | exact heap3a wr _ _ _) (Nat.le_refl _)) 1 _ rfl; have z5 : wr.heap.size ≤ w5.heap.size := Nat.le_trans hM5.k1.size hM5.at_.2.size)
            | (go_at_call 24; refine (HRAW.out _ _ _ _ hM5 ?_ ?_ ?_ ?_).mono ?_; (first | exact Chg.refl no w5 | exact (Chg.refl no w5).alloc _); (first | exact heap_alloc_new _ _ | exact hM5.keep hpr (heap3 _ _ _ _) (by omega) | exact hM5.keep hpr (heap3b _ _ _ _) (by omega)); omega; (first | exact .inr (Nat.le_refl _) | (refine .inl ?_; simp)); rintro e w6 ⟨rfl, hW6⟩; have HW6 : Hid _ := hW6; clear hW6))
          all_goals go_wp2
          all_goals go_roundw
          all_goals first | exact ⟨k + 1, by omega, by go_num, HW6.out⟩ | (simp [intOf]; omega)
        · obtain rfl : k = n := by omega
          have hki : (k : Int) ≤ k := by omega
          have HC : Hid (Chg no w0 wr) := hC
          have hE : (abs xs).take k = abs xs := List.take_of_length_le (by rw [abs_len, HL.out]; omega)
          rw [hE] at HW
          have HLW := HLn.out wr
          by_cases hkZ : k ≤ Z
          · have HSE := sealed_ok (HW.out.1) N (by omega) (by simp only; rw [HB.out, ← HN.out]; omega)
            clear hE hC
            go_wp2_with fail
            refine HLW.mono ?_
            rintro e w5 ⟨rfl, rfl⟩
            go_wp2_with fail
            refine HSE.mono ?_
            rintro e w6 ⟨rfl, g6, k6⟩
            clear HSE HLW
            have HF : Hid (EncR (encL Z (abs xs)) w0 (.returned (.tuple #[.slice (some ⟨w5.heap.size, 0, none⟩) N N, .int .i64 0])) w6) := by
              refine HT.out _ w6 (by omega) ?_ (HC.out.then k6)
              have hl := lies_block g6 N
              have e : (fill (bodyB (abs xs)) N).length = N := fill_length _ _ (by rw [HB.out, ← HN.out]; omega)
              simp only [List.length_map, e] at hl
              have := HC.out.size
              exact hl.mono (fun b hb => by subst hb; exact this)
            clear g6 k6
            go_wp2
            go_ret2
            exact HF.out
          · have HSE := sealed_full (HW.out.1) N (by omega) (by omega) (by rw [HB.out, ← HN.out]; omega)
            clear hE hC
            go_wp2_with fail
            refine HLW.mono ?_
            rintro e w5 ⟨rfl, rfl⟩
            go_wp2_with fail
            refine HSE.mono ?_
            rintro e w6 ⟨rfl, rfl⟩
            clear HSE HLW
            go_wp2
            go_ret2
            exact HR.out _ (by omega) HC.out
    · have hmm : mayL (abs xs) = false := decide_eq_false hm
      rw [hmm] at HM
      have HR : Hid (∀ w', Chg no w w' → EncR (encL z (abs xs)) w (.returned (.tuple #[.slice none 0 0, .int .i64 1])) w') := by
        intro w' k
        refine EncR.none ?_ k
        unfold encL
        rw [if_neg (fun h => hm h.2.2)]
      clear h hm hmm hz hzz
      go_enter Try.func10, Try.ntmps10
      go_wp2_with fail
      refine HS.mono ?_
      rintro e w0 ⟨rfl, rfl⟩
      clear HS
      go_wp2_with fail
      refine HM.mono ?_
      rintro e w1 ⟨rfl, k1⟩
      clear HM
      go_wp2
      go_ret2
      exact HR.out _ k1
  · have hzz : isZ z = false := decide_eq_false hz
    rw [hzz] at HS
    have HR : Hid (EncR (encL z (abs xs)) w (.returned (.tuple #[.slice none 0 0, .int .i64 1])) w) := by
      refine EncR.none ?_ (Chg.refl no w)
      unfold encL
      rw [if_neg (fun h => hz ⟨h.1, h.2.1⟩)]
    clear h HM hz hzz
    go_enter Try.func10, Try.ntmps10
    go_wp2_with fail
    refine HS.mono ?_
    rintro e w0 ⟨rfl, rfl⟩
    clear HS
    go_wp2
    go_ret2
    exact HR.out

end Go.Proofs.Ytlcbfdbnjohicaa.st
