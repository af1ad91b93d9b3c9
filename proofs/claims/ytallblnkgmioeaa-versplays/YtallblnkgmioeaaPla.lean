/- The law VersPlays, walked. -/
import Derived.Test.YtallblnkgmioeaaTwc
import Derived.Test.YtallblnkgmioeaaOpr
import Derived.Below
import Derived.Deep.OwnRows
namespace Go.Proofs.Ytallblnkgmioeaa.plays
open Go.ChangeShapes Go.WideShapes Go.ChangeAt Go.RowKit Go.Proofs.Ytallblnkgmioeaa.hp Go.Proofs.Ytallblnkgmioeaa.bt Go.Proofs.Ytallblnkgmioeaa.st
set_option linter.unusedVariables false
set_option linter.unusedSimpArgs false
variable {Bt : (Nat → Prop) → World → Value → List Int → Prop}

/-- Two objects, their blocks from lo to hi. -/
def Duo (Bt : (Nat → Prop) → World → Value → List Int → Prop) (lo hi : Nat) (w : World) (a c : Value) (x z : List Int) : Prop :=
  ∃ F G, Bt F w a x ∧ Bt G w c z ∧ (∀ k, F k → ¬ G k) ∧ (∀ k, F k → lo ≤ k ∧ k < hi) ∧ (∀ k, G k → lo ≤ k ∧ k < hi)

theorem Duo.later (V : Ways Bt) {lo hi : Nat} {w w' : World} {a c : Value} {x z : List Int} (h : Duo Bt lo hi w a c x z) (k : Chg no w w') : Duo Bt lo hi w' a c x z := by
  obtain ⟨F, G, p, q, rest⟩ := h
  exact ⟨F, G, V.keep p k (fun _ _ h => h), V.keep q k (fun _ _ h => h), rest⟩

theorem Duo.flip (V : Ways Bt) {lo hi : Nat} {w : World} {a c : Value} {x z l : List Int} {K : Nat → Prop} {s : Option Addr} {d : Nat} (h : Duo Bt lo hi w a c x z) (hl : Lies K w (.slice s l.length d) (l.map (Value.int .i64))) (hK : ∀ k, K k → k < lo ∨ hi ≤ k) (hd : l.length ≤ d) (hll : l.length ≤ 100000) :
    Calls Try.prog 13 #[a, .slice s l.length d] w fun e w' => e = .returned (.bool (okF x.length l)) ∧ Duo Bt lo hi w' a c (flipI x l).1 z ∧ Chg (fun k => lo ≤ k ∧ k < hi) w w' := by
  obtain ⟨F, G, p, q, d1, l1, l2⟩ := h
  refine (V.flip p hl (fun k hk hf => by have := hK k hk; have := l1 k hf; omega) hd hll).mono ?_
  rintro e' w' ⟨rfl, q1, q2⟩
  exact ⟨rfl, ⟨F, G, q1, V.keep q q2 (fun k hg hf => d1 k hf hg), d1, l1, l2⟩, q2.mono (fun k hk => .inl (l1 k hk))⟩

theorem Duo.copy (V : Ways Bt) {w1 w2 w3 : World} {v : Value} {x : List Int} (h : Nob Bt w1 w2 v x) (k : Chg no w2 w3) :
    Calls Try.prog 11 #[v] w3 fun e w' => ∃ q, e = .returned (.pointer (some q)) ∧ Duo Bt w1.heap.size w'.heap.size w' v (.pointer (some q)) x x ∧ Chg no w3 w' := by
  obtain ⟨F, a, hF, c⟩ := h
  have a3 := V.keep a k (fun _ _ h => h)
  have hlow := (V.facts a3).2.2.2.2
  refine (V.copy a3).mono ?_
  rintro e w' ⟨q, F', rfl, q1, q2, q3⟩
  have s1 := c.size
  have s2 := k.size
  have s3 := q3.size
  have hl2 := (V.facts q1).2.2.2.2
  exact ⟨q, rfl, ⟨F, F', V.keep a3 q3 (fun _ _ h => h), q1, fun k h1 h2 => by have := hlow k h1; have := q2 k h2; omega, fun k h => ⟨hF k h, by have := hlow k h; omega⟩, fun k h => ⟨by have := q2 k h; omega, hl2 k h⟩⟩, q3⟩

theorem Duo.swap {lo hi : Nat} {w : World} {a c : Value} {x z : List Int} (h : Duo Bt lo hi w a c x z) : Duo Bt lo hi w c a z x := by
  obtain ⟨F, G, p, q, d1, l1, l2⟩ := h
  exact ⟨G, F, q, p, fun k a b => d1 k b a, l2, l1⟩

theorem flipI_two (x l : List Int) : (flipI x l).2 = okF x.length l := by
  unfold flipI
  cases h : okF x.length l
  · rw [if_neg (by simp)]
  · rw [if_pos rfl]

set_option maxRecDepth 100000 in
set_option maxHeartbeats 8000000 in
theorem walk (V : Ways Bt) (w : World) (n : Int) (a : Option Addr) (len c : Nat) (A : Nat → Option Addr) (C : Nat → Nat) (Z : Nat → List Int) (R : Rws w a len A C Z) (hlen : len ≤ maxLen) :
    Calls Try.prog 3 #[.int .i64 n, .slice a len c] w fun e w' => e = .returned (.bool true) ∧ Below w.heap.size w w' := by
  have HR : Hid (∀ W, Chg no w W → ∀ r, r < len → ∃ y, a = some y ∧ W.cell? (y.add r) = some (.slice (A r) (Z r).length (C r)) ∧ (Z r).length ≤ C r ∧ C r ≤ maxLen ∧ Lies (Old w) W (.slice (A r) (Z r).length (C r)) ((Z r).map (Value.int .i64))) := fun W k r hr => by
    obtain ⟨y, h1, h2, h3, h4, h5⟩ := R r hr
    exact ⟨y, h1, k.cell h2 id, h3, h4, h5.chg k (fun _ _ h => h)⟩
  have hlmax : (len : Int) ≤ 9223372036854775807 := by unfold maxLen at hlen; omega
  clear R hlen
  go_enter Try.func3, Try.ntmps3
  go_wp2_with fail
  refine (first_any V _).mono ?_
  rintro e w1 ⟨rfl, k1⟩
  have K1 : Hid (Chg no w w1) := k1
  clear k1
  go_wp2_with fail
  go_loopw [5, 6] (fun kv iv wr => ∃ i K : Nat, i ≤ len ∧ i ≤ 100 ∧ kv = .int .i64 (K : Int) ∧ iv = .int .i64 (i : Int) ∧ (∀ r, r < i → min (Z r).length 2001 ≤ K) ∧ K ≤ 2001 * i ∧ wr = w1) (fun _ iv _ => len - (intOf iv).toNat)
  case atStart => exact ⟨0, 0, by omega, by omega, rfl, rfl, fun r hr => by omega, by omega, rfl⟩
  case round =>
    obtain ⟨i, K, hi, hi2, rfl, rfl, hK, hK2, rfl⟩ := hrel
    have HK : Hid (∀ r, r < i → min (Z r).length 2001 ≤ K) := hK
    clear hK
    by_cases hil : i < len ∧ i < 100
    · obtain ⟨h1, h2⟩ := hil
      have h1i : (i : Int) < len := by omega
      have h2i : (i : Int) < 100 := by omega
      obtain ⟨y, rfl, c1, hc1, hc2, _⟩ := HR.out wr K1.out i h1
      obtain ⟨m, hm⟩ : ∃ m, (Z i).length = m := ⟨_, rfl⟩
      have HM : Hid ((Z i).length = m) := hm
      rw [hm] at c1 hc1
      have hmi : (m : Int) ≤ 9223372036854775807 := by unfold maxLen at hc2; omega
      have hKi : (K : Int) ≤ 200100 := by omega
      clear hm hc1 hc2
      have HN : Hid (∀ r, r < i + 1 → min (Z r).length 2001 ≤ K + min m 2001) := fun r hr => by
        by_cases h : r < i
        · have := HK.out r h
          omega
        · obtain rfl : r = i := by omega
          rw [HM.out]
          omega
      go_wp2
      go_roundw
      case rel => exact ⟨i + 1, K + min m 2001, by omega, by omega, by congr 1; split <;> omega, by go_num, HN.out, by omega, by trivial⟩
      case measure => simp [intOf]; omega
    · by_cases hbig : 100 < len
      · have hb : (100 : Int) < len := by omega
        have hq : i = 100 := by omega
        subst hq
        clear hil
        go_wp2_with fail
        refine (first_any V _).mono ?_
        rintro e w2 ⟨rfl, k2⟩
        go_wp2
        go_ret
        exact ⟨rfl, (K1.out.then k2).below⟩
      have hb : ¬ (100 : Int) < len := by omega
      obtain rfl : i = len := by omega
      have hi0 : ¬ (i : Int) < i := by omega
      clear hil hbig hi
      by_cases hbk : 2000 < K
      · have hkb : (2000 : Int) < K := by omega
        go_wp2_with fail
        refine (first_any V _).mono ?_
        rintro e w2 ⟨rfl, k2⟩
        go_wp2
        go_ret
        exact ⟨rfl, (K1.out.then k2).below⟩
      have hkb : ¬ (2000 : Int) < K := by omega
      have HZ : Hid (∀ r, r < i → (Z r).length ≤ 2000) := fun r hr => by have := HK.out r hr; omega
      clear HK hbk hK2
      have HM := fun W => rmayBits_any W n
      cases hm : mayN n
      · have HN := fun W => V.new0 W n hm
        rw [hm] at HM
        clear hm
        go_wp2_with fail
        refine (HN _).mono ?_
        rintro e w2 ⟨rfl, k2⟩
        go_wp2_with fail
        refine (HM _).mono ?_
        rintro e w3 ⟨rfl, hw⟩
        subst hw
        go_wp2_with fail
        refine (first_any V _).mono ?_
        rintro e w4 ⟨rfl, k4⟩
        go_wp2
        go_ret
        exact ⟨rfl, ((K1.out.then k2).then k4).below⟩
      have hn : 1 ≤ n ∧ n ≤ 127 := of_decide_eq_true hm
      obtain ⟨N, rfl⟩ : ∃ N : Nat, n = N := ⟨n.toNat, by omega⟩
      rw [hm] at HM
      have HN : Hid (∀ W, Calls Try.prog 9 #[.int .i64 N] W fun e w' => ∃ p, e = .returned (.pointer (some p)) ∧ Nob Bt W w' (.pointer (some p)) (List.replicate N 0)) := fun W => by
        refine (V.new1 W N hm).mono ?_
        rintro e w' ⟨p, F, rfl, a, b, c⟩
        exact ⟨p, rfl, F, a, b, c⟩
      have hmake := fun w => run_make_row' (P := Try.prog) 24 3 (.int .i64 0) 8 Try.underlying24 info3 rfl .i64 .i64 N (by omega) (by omega) w
      have hNi : (N : Int) ≤ 127 := hn.2
      obtain ⟨O, hO⟩ : ∃ O, List.replicate N (0 : Int) = O := ⟨_, rfl⟩
      have hOl : O.length = N := by rw [← hO]; simp
      have HOL : Hid (O.length = N) := hOl
      have HMK : Hid (∀ W : World, Chg no W (W.alloc (.cells (madeCells #[.int .i64 0] N) 3)) ∧ Lies (fun _ => True) (W.alloc (.cells (madeCells #[.int .i64 0] N) 3)) (.slice (some ⟨W.heap.size, 0, none⟩) N N) (O.map (Value.int .i64))) := fun W => by
        have e : madeCells #[Value.int .i64 0] N = (O.map (Value.int .i64)).toArray := by
          rw [← hO, List.map_replicate, ← toList_madeCells_one]
        rw [e]
        refine ⟨(Chg.refl no W).alloc _, .inr ⟨_, N, by rw [List.length_map, hOl], fun _ => trivial, fun j u hu => news_at j u hu⟩⟩
      simp only [hO] at HN
      clear hm hn hO hOl
      have HN1 := HN.out wr
      go_wp2_with fail
      refine HN1.mono ?_
      rintro e w2 ⟨p, rfl, N2⟩
      have HNO : Hid (Nob Bt wr w2 (.pointer (some p)) O) := N2
      clear HN1 HN N2
      go_wp2_with fail
      refine (HM _).mono ?_
      rintro e w3 ⟨rfl, hw⟩
      subst hw
      clear HM
      have HCP := Duo.copy V HNO.out (HMK.out w3).1
      go_wp2_with fail
      refine HCP.mono ?_
      rintro e w4 ⟨q, rfl, D4, k4⟩
      obtain ⟨lo, hlo⟩ : ∃ lo, wr.heap.size = lo := ⟨_, rfl⟩
      obtain ⟨hi, hhi⟩ : ∃ hi, w4.heap.size = hi := ⟨_, rfl⟩
      have HLO : Hid (w.heap.size ≤ lo) := by show _ ≤ _; rw [← hlo]; exact K1.out.size
      have HHI : Hid (w4.heap.size = hi) := hhi
      rw [hlo, hhi] at D4
      have HD4 : Hid (Duo Bt lo hi w4 (.pointer (some p)) (.pointer (some q)) O O) := D4
      have HX4 : Hid (Lies (fun _ => True) w4 (.slice (some ⟨w3.heap.size, 0, none⟩) N N) (O.map (Value.int .i64))) := (HMK.out w3).2.chg k4 (fun _ _ h => h)
      have K4 : Hid (Chg no w w4) := (K1.out.then HNO.out.chg).then ((HMK.out w3).1.then k4)
      have HOB : Hid (Bin O) := (HNO.out.bin V).1
      have HBI : Hid (∀ W v X c' z, Duo Bt lo hi W v c' X z → Calls Try.prog 16 #[v] W fun e w' => ∃ a c, e = .returned (.slice a X.length c) ∧ New W X (.slice a X.length c) w') := fun W v X c' z h => by
        obtain ⟨F, G, q1, _⟩ := h
        refine (bits_any V W v X q1).mono ?_
        rintro e w' ⟨v', rfl, N⟩
        obtain ⟨a, c, rfl⟩ := N.shape
        exact ⟨a, c, rfl, N⟩
      have HBY : Hid (∀ W v X c' z, Duo Bt lo hi W v c' X z → Calls Try.prog 18 #[v] W fun e w' => ∃ a m c, e = .returned (.slice a m c) ∧ NewB W (bytesOf X) (.slice a m c) w' ∧ Bytes (bytesOf X)) := fun W v X c' z h => by
        obtain ⟨F, G, q1, _⟩ := h
        have hb := bytesOf_bytes X (V.facts q1).1
        refine (V.bytes q1).mono ?_
        rintro e w' ⟨v', rfl, N⟩
        obtain ⟨a, c, rfl⟩ := N.shape
        exact ⟨a, _, c, rfl, N, hb⟩
      have HBB : Hid (∀ W a m c (X : List Int), Lies (fun _ => True) W (.slice a m c) (X.map (Value.int .i64)) → Bin X → X.length ≤ 127 → Calls Try.prog 19 #[.slice a m c] W fun e w' => ∃ a' m' c', e = .returned (.slice a' m' c') ∧ NewB W (bytesOf X) (.slice a' m' c') w') := fun W a m c X h hx hl => by
        refine (bitBytes_any W _ X h hx (by omega)).mono ?_
        rintro e w' ⟨v', rfl, N⟩
        obtain ⟨a, c, rfl⟩ := N.shape
        exact ⟨a, _, c, rfl, N⟩
      clear HCP D4 k4 HNO hlo hhi
      go_wp2_with fail
      rename World => wl
      go_loopw [8, 10] (fun xv iv wq => ∃ (j : Nat) (xa : Option Addr) (xc : Nat) (X : List Int), j ≤ i ∧ iv = .int .i64 (j : Int) ∧ xv = .slice xa N xc ∧ X.length = N ∧ Bin X ∧ Lies (fun _ => True) wq (.slice xa N xc) (X.map (Value.int .i64)) ∧ Duo Bt lo hi wq (.pointer (some p)) (.pointer (some q)) X O ∧ Chg no w wq ∧ hi ≤ wq.heap.size) (fun _ iv _ => i - (intOf iv).toNat)
      case atStart => exact ⟨0, _, _, O, by omega, rfl, rfl, HOL.out, HOB.out, HX4.out, HD4.out, K4.out, by have := HHI.out; omega⟩
      case round =>
        clear HX4 HD4 K4 HHI
        obtain ⟨j, xa, xc, X, hj, rfl, rfl, hXl, hXb, hXL, hD, hC, hS⟩ := hrel
        have HXl : Hid (X.length = N) := hXl
        have HXb : Hid (Bin X) := hXb
        have HD : Hid (Duo Bt lo hi wr (.pointer (some p)) (.pointer (some q)) X O) := hD
        have HC : Hid (Chg no w wr) := hC
        have HS : Hid (hi ≤ wr.heap.size) := hS
        by_cases hji : j < i
        · have hjI : (j : Int) < i := by omega
          obtain ⟨y, rfl, c1, hc1, hc2, hl⟩ := HR.out wr hC j hji
          have hz := HZ.out j hji
          obtain ⟨zs, hzs⟩ : ∃ zs, Z j = zs := ⟨_, rfl⟩
          obtain ⟨b, hb'⟩ : ∃ b, A j = b := ⟨_, rfl⟩
          obtain ⟨d, hd'⟩ : ∃ d, C j = d := ⟨_, rfl⟩
          rw [hzs] at hz hc1
          rw [hzs, hb', hd'] at c1 hl
          rw [hd'] at hc1 hc2
          have hFl := flip_any wr (.slice xa N xc) b d X zs hXL hl hc1 hXb (by omega) (by omega)
          rw [flipI_two, hXl] at hFl
          have HLl : Hid (∀ W, Chg no w W → Lies (Old w) W (.slice b zs.length d) (zs.map (Value.int .i64))) := fun W k => by
            obtain ⟨_, _, _, _, _, hl⟩ := HR.out W k j hji
            rw [hzs, hb', hd'] at hl
            exact hl
          have HVF : Hid (∀ W, Chg no w W → Duo Bt lo hi W (.pointer (some p)) (.pointer (some q)) X O → Calls Try.prog 13 #[.pointer (some p), .slice b zs.length d] W fun e w' => e = .returned (.bool (okF N zs)) ∧ Duo Bt lo hi w' (.pointer (some p)) (.pointer (some q)) (flipI X zs).1 O ∧ Chg (fun k => lo ≤ k ∧ k < hi) W w') := fun W k h => by
            have := Duo.flip V h (HLl.out W k) (fun k' hk' => by have h1 : k' < w.heap.size := hk'; have := HLO.out; omega) hc1 (by omega)
            rw [HXl.out] at this
            exact this
          have hX1 := twice.flipI_len X zs
          have hX2 := twice.flipI_bin hXb zs
          obtain ⟨E, hE⟩ : ∃ E, okF N zs = E := ⟨_, rfl⟩
          obtain ⟨Y, hY⟩ : ∃ Y, (flipI X zs).1 = Y := ⟨_, rfl⟩
          obtain ⟨m, hm⟩ : ∃ m, zs.length = m := ⟨_, rfl⟩
          simp only [hE, hY, hm] at hFl HVF
          rw [hY, hXl] at hX1
          rw [hY] at hX2
          rw [hm] at c1
          have HYl : Hid (Y.length = N) := hX1
          have HYb : Hid (Bin Y) := hX2
          have hmi : (m : Int) ≤ 2000 := by omega
          clear hXl hXb hXL hD hC hS hl hz hzs hb' hd' hc1 hc2 hX1 hX2 hE hY hm HLl
          go_wp2_with fail
          refine hFl.mono ?_
          rintro e w5 ⟨v5, rfl, N5⟩
          obtain ⟨a5, c5, rfl⟩ := N5.shape
          rw [HYl.out] at N5 ⊢
          have HN5 : Hid (New wr Y (.slice a5 N c5) w5) := N5
          have c1' : w5.cell? (y.add j) = some (.slice b m d) := N5.2.cell c1 id
          have HV5 := HVF.out w5 (HC.out.then N5.2) (HD.out.later V N5.2)
          have hz5 := N5.2.size
          have HS5 : Hid (hi ≤ wr.heap.size) := HS.out
          clear hFl HVF c1 N5
          go_wp2_with fail
          refine HV5.mono ?_
          rintro e w6 ⟨rfl, D6, k6⟩
          have HN6 : Hid (Lies (fun _ => True) w6 (.slice a5 N c5) (Y.map (Value.int .i64))) := by
            have := HN5.out.lies.chg k6 (fun k hk hf => by have := hk.1; have := hf.2; have := HS5.out; omega)
            exact this.mono (fun _ _ => trivial)
          have HD6 : Hid (Duo Bt lo hi w6 (.pointer (some p)) (.pointer (some q)) Y O) := D6
          have K6 : Hid (Chg no w w6) := (HC.out.then HN5.out.2).trans k6 (fun k hk => .inr (by have := hk.1; have := HLO.out; omega))
          have HS6 : Hid (hi ≤ w6.heap.size) := by show _ ≤ _; have := k6.size; have := HS5.out; omega
          have HL6 : Calls Try.prog 14 #[.pointer (some p)] w6 fun e w' => e = .returned (.int .i64 (N : Int)) ∧ w' = w6 := by
            obtain ⟨F, G, q1, _⟩ := D6
            have := V.len q1
            rw [HYl.out] at this
            exact this
          clear HV5 D6 k6 hz5 HN5 HS5 HC HD HS c1'
          go_wp2_with fail
          refine HL6.mono ?_
          rintro e w7 ⟨rfl, hw⟩
          subst hw
          have HB7 := HBI.out w7 _ _ _ _ HD6.out
          clear HL6
          go_wp2_with fail
          refine HB7.mono ?_
          rintro e w8 ⟨x8, c8, rfl, N8⟩
          have HI8 := ints_same w8 _ _ Y N8.lies (HN6.out.chg N8.2 (fun _ _ h => h)) (by rw [HYl.out]; omega)
          have HD8 : Hid (Duo Bt lo hi w8 (.pointer (some p)) (.pointer (some q)) Y O) := HD6.out.later V N8.2
          have HN8 : Hid (Lies (fun _ => True) w8 (.slice a5 N c5) (Y.map (Value.int .i64))) := HN6.out.chg N8.2 (fun _ _ h => h)
          have K8 : Hid (Chg no w7 w8) := N8.2
          clear HB7 N8
          go_wp2_with fail
          refine HI8.mono ?_
          rintro e w9 ⟨rfl, n9, hw9⟩
          have k9 : Chg no w8 w9 := by rw [hw9]; exact (Chg.refl no _).drewN n9
          have HD9 : Hid (Duo Bt lo hi w9 (.pointer (some p)) (.pointer (some q)) Y O) := HD8.out.later V k9
          have HN9 : Hid (Lies (fun _ => True) w9 (.slice a5 N c5) (Y.map (Value.int .i64))) := HN8.out.chg k9 (fun _ _ h => h)
          have K9 : Hid (Chg no w7 w9) := K8.out.then k9
          have HY9 := HBY.out w9 _ _ _ _ HD9.out
          clear HI8 hw9 k9 HD8 HN8 K8
          go_wp2_with fail
          refine HY9.mono ?_
          rintro e w10 ⟨x10, m10, c10, rfl, N10, hby⟩
          have HN10 : Hid (Lies (fun _ => True) w10 (.slice a5 N c5) (Y.map (Value.int .i64))) := HN9.out.chg N10.2 (fun _ _ h => h)
          have K10 : Hid (Chg no w7 w10) := K9.out.then N10.2
          have HB10 := HBB.out w10 a5 N c5 Y HN10.out HYb.out (by rw [HYl.out]; omega)
          have HNB : Hid (NewB w9 (bytesOf Y) (.slice x10 m10 c10) w10) := N10
          have HBy : Hid (Bytes (bytesOf Y)) := hby
          clear HY9 N10 HN9 K9 hby HD9
          go_wp2_with fail
          refine HB10.mono ?_
          rintro e w11 ⟨x11, m11, c11, rfl, N11⟩
          have HEQ := bytes_any (HNB.out.chg N11.2).lies N11.lies HBy.out HBy.out
          rw [decide_eq_true rfl] at HEQ
          have HN11 : Hid (Lies (fun _ => True) w11 (.slice a5 N c5) (Y.map (Value.int .i64))) := HN10.out.chg N11.2 (fun _ _ h => h)
          have K11 : Hid (Chg no w7 w11) := K10.out.then N11.2
          clear HB10 N11 HN10 K10 HNB
          go_wp2_with fail
          refine HEQ.mono ?_
          rintro e w12 ⟨rfl, hw12⟩
          subst hw12
          clear HEQ
          go_wp2
          go_roundw
          case rel => exact ⟨j + 1, _, _, Y, by omega, by go_num, rfl, HYl.out, HYb.out, HN11.out, HD6.out.later V K11.out, K6.out.then K11.out, by have := HS6.out; have := K11.out.size; omega⟩
          case measure => simp [intOf]; omega
        · obtain rfl : j = i := by omega
          have hjI : ¬ (j : Int) < j := by omega
          clear hXl hXb hXL hD hC hS HXl HXb HBY HBB HZ HR
          have HBq : Hid (∀ W, Chg no wr W → Calls Try.prog 16 #[.pointer (some q)] W fun e w' => ∃ a c, e = .returned (.slice a N c) ∧ New W O (.slice a N c) w') := fun W k => by
            have := HBI.out W _ _ _ _ (HD.out.later V k).swap
            rw [HOL.out] at this
            exact this
          have HIN : Hid (∀ W a1 c1 a2 c2, Lies (fun _ => True) W (.slice a1 N c1) (O.map (Value.int .i64)) → Lies (fun _ => True) W (.slice a2 N c2) (O.map (Value.int .i64)) → Calls Try.prog 15 #[.slice a1 N c1, .slice a2 N c2] W fun e w' => e = .returned (.bool true) ∧ Chg no W w') := fun W a1 c1 a2 c2 h1 h2 => by
            refine (ints_same W _ _ O h1 h2 (by rw [HOL.out]; omega)).mono ?_
            rintro e w' ⟨rfl, n, rfl⟩
            exact ⟨rfl, (Chg.refl no _).drewN n⟩
          clear HBI HD
          go_wp2_with fail
          go_region_with (first | (go_at_call 8; refine (first_any V _).mono ?_; rintro e w21 ⟨rfl, k21⟩) | (go_at_call 16; refine (HBq.out _ ?_).mono ?_; (first | exact ((Chg.refl no wr).drew).then k21 | exact (((Chg.refl no wr).drew).then k21).then (HMK.out _).1); rintro e w22 ⟨a22, c22, rfl, N22⟩) | (go_at_call 15; refine (HIN.out _ _ _ _ _ ?_ ?_).mono ?_; (first | exact N22.lies.mono (fun _ _ => trivial) | exact (N22.lies.mono (fun _ _ => trivial)).chg (HMK.out _).1 (fun _ _ h => h)); (first | exact (HMK.out _).2 | exact (HMK.out _).2.chg N22.2 (fun _ _ h => h)); rintro e w23 ⟨rfl, k23⟩))
          all_goals go_wp2
          all_goals go_ret
          · first | exact ⟨rfl, (((((HC.out.then ((Chg.refl no wr).drew)).then k21).then N22.2).then (HMK.out _).1).then k23).below⟩ | exact ⟨rfl, (((((HC.out.then ((Chg.refl no wr).drew)).then k21).then (HMK.out _).1).then N22.2).then k23).below⟩
          · first | exact ⟨rfl, (((((HC.out.then ((Chg.refl no wr).drew)).then k21).then N22.2).then (HMK.out _).1).then k23).below⟩ | exact ⟨rfl, (((((HC.out.then ((Chg.refl no wr).drew)).then k21).then (HMK.out _).1).then N22.2).then k23).below⟩

end Go.Proofs.Ytallblnkgmioeaa.plays
