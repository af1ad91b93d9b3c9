/-
  Proved: for all bytes and every two numbers the law SealAlike returns true; no condition.
-/
import Derived.Test.YtmchjnmmeankgaaArg
import Derived.Test.YtmchjnmmeankgaaArgs
import Derived.Test.YtmchjnmmeankgaaXors
namespace Go.Proofs.Ytmchjnmmeankgaa.sealAlike
open Go.ChangeShapes Go.WideShapes Go.ChangeAt Go.RowKit Go.Proofs.Ytmchjnmmeankgaa.hp Go.Proofs.Ytmchjnmmeankgaa.dg Go.Proofs.Ytmchjnmmeankgaa.st
set_option linter.unusedVariables false

theorem fresh_pad (zs ys : List Int) (L : Nat) (n : Int × Int) : ((OS.fresh zs L).put n ys).padOf n = padsOf zs 0 L := by
  have e : ((OS.fresh zs L).put n ys).ks = [n] := put_ks ys (by simp [OS.fresh])
  unfold OS.padOf OS.pad
  rw [e]
  simp [OS.put, OS.ask, OS.fresh]

/-- Under the pad xored with both texts the one's cell is the other's. -/
theorem alike {f a b : List Int} {L : Nat} (g c : Int) (hf : Bytes f) (ha : Bytes a) (hb : Bytes b) (hl : a.length = L) (hm : b.length = L) (hL : L ≤ f.length) :
    (OS.fresh (xor2 (xor2 f a) b) L).cellOf (g, c) b = (OS.fresh f L).cellOf (g, c) a := by
  unfold OS.cellOf
  rw [fresh_pad, fresh_pad]
  congr 1
  apply list_at (by rw [xor2_length, xor2_length, hl, hm])
  intro i hi
  rw [xor2_length] at hi
  rw [xor2_at _ _ i hi, xor2_at _ _ i (by omega), padsOf_length, padsOf_length, if_pos (by omega), if_pos (by omega), padsOf_at _ _ _ _ (by omega), padsOf_at _ _ _ _ (by omega), Nat.zero_add, xor2_at _ _ i (by rw [xor2_length]; omega), if_pos (by omega), xor2_at _ _ i (by omega), if_pos (by omega)]
  exact xb_alike (hf.at i) (ha.at i) (hb.at i)

set_option maxRecDepth 100000 in
set_option maxHeartbeats 4000000 in
theorem early (w : World) (a0 : Option Addr) (l0 c0 : Nat) (a1 : Option Addr) (l1 c1 : Nat) (a2 : Option Addr) (l2 c2 : Nat) (g c : Int) (hh : l1 < 1 ∨ 100 < l1 ∨ l2 ≠ l1 ∨ 1000 < l0 ∨ g < 1 ∨ 1000 < g ∨ c < 0 ∨ 1000 < c) :
    Calls Try.prog 5 #[.slice a0 l0 c0, .slice a1 l1 c1, .slice a2 l2 c2, .int .i64 g, .int .i64 c] w fun e w' => e = .returned (.bool true) ∧ Below w.heap.size w w' := by
  have hc : ((l1 : Int) < 1) ∨ (1 ≤ (l1 : Int) ∧ 100 < (l1 : Int)) ∨ (1 ≤ (l1 : Int) ∧ (l1 : Int) ≤ 100 ∧ (l2 == l1) = false ∧ ((l2 : Int) == (l1 : Int)) = false ∧ ¬ l2 = l1) ∨ (1 ≤ (l1 : Int) ∧ (l1 : Int) ≤ 100 ∧ l2 = l1 ∧ 1000 < (l0 : Int)) ∨ (1 ≤ (l1 : Int) ∧ (l1 : Int) ≤ 100 ∧ l2 = l1 ∧ (l0 : Int) ≤ 1000 ∧ g < 1) ∨ (1 ≤ (l1 : Int) ∧ (l1 : Int) ≤ 100 ∧ l2 = l1 ∧ (l0 : Int) ≤ 1000 ∧ 1 ≤ g ∧ 1000 < g) ∨
      (1 ≤ (l1 : Int) ∧ (l1 : Int) ≤ 100 ∧ l2 = l1 ∧ (l0 : Int) ≤ 1000 ∧ 1 ≤ g ∧ g ≤ 1000 ∧ c < 0) ∨ (1 ≤ (l1 : Int) ∧ (l1 : Int) ≤ 100 ∧ l2 = l1 ∧ (l0 : Int) ≤ 1000 ∧ 1 ≤ g ∧ g ≤ 1000 ∧ 0 ≤ c ∧ 1000 < c) := by
    have e : (l2 == l1) = false ↔ l2 ≠ l1 := by simp
    have e2 : ((l2 : Int) == (l1 : Int)) = false ↔ l2 ≠ l1 := by simp; omega
    rw [e, e2]
    omega
  clear hh
  rcases hc with h1 | ⟨h1, h2⟩ | ⟨h1, h2, h3, h3b, h3c⟩ | ⟨h1, h2, rfl, h4⟩ | ⟨h1, h2, rfl, h4, h5⟩ | ⟨h1, h2, rfl, h4, h5, h6⟩ | ⟨h1, h2, rfl, h4, h5, h6, h7⟩ | ⟨h1, h2, rfl, h4, h5, h6, h7, h8⟩
  all_goals
    go_enter Try.func5, Try.ntmps5
    go_wp2_with fail
    refine (first_any _).mono ?_
    rintro e w1 ⟨rfl, k1⟩
    go_wp2_with fail
    refine (first_any _).mono ?_
    rintro e w3 ⟨rfl, k3⟩
    go_wp2
    go_ret
    exact ⟨rfl, (k1.then k3).below⟩


set_option maxRecDepth 100000 in
set_option maxHeartbeats 16000000 in
theorem late (w : World) (a0 : Option Addr) (c0 : Nat) (z0 : List Int) (a1 : Option Addr) (c1 : Nat) (z1 : List Int) (a2 : Option Addr) (c2 : Nat) (z2 : List Int) (g c : Int) (L : Nat)
    (h0 : Lies (Old w) w (.slice a0 z0.length c0) (z0.map (Value.int .u8))) (b0 : Bytes z0) (h1 : Lies (Old w) w (.slice a1 L c1) (z1.map (Value.int .u8))) (b1 : Bytes z1) (h2 : Lies (Old w) w (.slice a2 L c2) (z2.map (Value.int .u8))) (b2 : Bytes z2)
    (e0 : z0.length ≤ 1000) (e1 : z1.length = L) (e2 : z2.length = L) (l1 : 1 ≤ L) (l2 : L ≤ 100) (g1 : 1 ≤ g) (g2 : g ≤ 1000) (d1 : 0 ≤ c) (d2 : c ≤ 1000) :
    Calls Try.prog 5 #[.slice a0 z0.length c0, .slice a1 L c1, .slice a2 L c2, .int .i64 g, .int .i64 c] w fun e w' => e = .returned (.bool true) ∧ Below w.heap.size w w' := by
  have i0 : (z0.length : Int) ≤ 1000 := by omega
  have i1 : (1 : Int) ≤ L := by omega
  have i2 : (L : Int) ≤ 100 := by omega
  have hm : may g c = true := decide_eq_true (by omega)
  have HFI : Hid (Fits (g, c)) := fits_may hm
  obtain ⟨M, hM⟩ : ∃ M, max z0.length L = M := ⟨_, rfl⟩
  have hM1 : L ≤ M ∧ M ≤ 1000 := by omega
  have hmax : (if z0.length < L then (L : Int) else (z0.length : Int)) = M := by split <;> omega
  have hmax2 : (if L < z0.length then (z0.length : Int) else (L : Int)) = M := by split <;> omega
  have hmax3 : (if L ≤ z0.length then (z0.length : Int) else (L : Int)) = M := by split <;> omega
  have hmax4 : (if z0.length ≤ L then (L : Int) else (z0.length : Int)) = M := by split <;> omega
  obtain ⟨f, hf⟩ : ∃ f, fit z0 M = f := ⟨_, rfl⟩
  have HFB : Hid (Bytes f ∧ f.length = M) := by rw [← hf]; exact ⟨fit_bytes b0 M, fit_length _ _⟩
  have HF : Hid (fit z0 M = f) := hf
  obtain ⟨f2, hf2⟩ : ∃ f2, xor2 (xor2 f z1) z2 = f2 := ⟨_, rfl⟩
  have HF2 : Hid (xor2 (xor2 f z1) z2 = f2) := hf2
  have HF2B : Hid (Bytes f2 ∧ f2.length = M) := by rw [← hf2]; exact ⟨xor2_bytes (xor2_bytes HFB.out.1 b1) b2, by rw [xor2_length, xor2_length]; exact HFB.out.2⟩
  obtain ⟨cz, hcz⟩ : ∃ cz, (OS.fresh f L).cellOf (g, c) z1 = cz := ⟨_, rfl⟩
  have hcz2 : (OS.fresh f2 L).cellOf (g, c) z2 = cz := by rw [← hf2, ← hcz]; exact alike g c HFB.out.1 b1 b2 e1 e2 (by rw [HFB.out.2]; exact hM1.1)
  obtain ⟨S1, hS1⟩ : ∃ S1, OS.fresh f L = S1 := ⟨_, rfl⟩
  obtain ⟨S2, hS2⟩ : ∃ S2, OS.fresh f2 L = S2 := ⟨_, rfl⟩
  obtain ⟨R1, hR1⟩ : ∃ R1, S1.put (g, c) z1 = R1 := ⟨_, rfl⟩
  obtain ⟨R2, hR2⟩ : ∃ R2, S2.put (g, c) z2 = R2 := ⟨_, rfl⟩
  rw [hS1] at hcz
  rw [hS2] at hcz2
  have why : ∀ zs, (OS.fresh zs L).why g c L = 0 := by
    intro zs
    unfold OS.why
    rw [if_neg (by simp [hm]; omega), if_neg (by simp [OS.fresh]), if_neg (by simp [OS.knows, OS.fresh])]
  have W1 : S1.why g c z1.length = 0 := by rw [← hS1, e1]; exact why f
  have W2 : S2.why g c z2.length = 0 := by rw [← hS2, e2]; exact why f2
  have B1 := cell_back (S := S1) (by rw [← hS1]; exact HFB.out.1) b1 W1
  have B2 := cell_back (S := S2) (by rw [← hS2]; exact HF2B.out.1) b2 W2
  have CB := cell_bytes (S := S1) (by rw [← hS1]; exact HFB.out.1) g c b1
  have CL := (cell_parts S1 g c z1).2.2
  rw [hcz] at B1 CB CL
  rw [hcz2] at B2
  rw [hR1] at B1
  rw [hR2] at B2
  have hok1 : S1.Ok := by rw [← hS1]; exact fresh_ok f L l1 (by omega)
  have hok2 : S2.Ok := by rw [← hS2]; exact fresh_ok f2 L l1 (by omega)
  have hpl1 : S1.pl.length ≤ 9000000 := by rw [← hS1]; simp [OS.fresh]
  have hpl2 : S2.pl.length ≤ 9000000 := by rw [← hS2]; simp [OS.fresh]
  have nk1 : (g, c) ∉ S1.ks := by rw [← hS1]; simp [OS.fresh]
  have nk2 : (g, c) ∉ S2.ks := by rw [← hS2]; simp [OS.fresh]
  have rok : ∀ (S R : OS) (zs : List Int), S.ks = [] → S.pl = [] → S.L = L → zs.length = L → S.put (g, c) zs = R → R.Ok ∧ R.knows (g, c) = true ∧ R.L = L := by
    intro S R zs hk hp hl hz hR
    have hks : R.ks = [(g, c)] := by rw [← hR, put_ks zs (by rw [hk]; simp), hk]; rfl
    have hRl : R.L = L := by rw [← hR]; exact hl
    have hRp : R.pl = zs := by rw [← hR, put_pl, hp]; rfl
    exact ⟨⟨by omega, by omega, by rw [hks]; simp, by rw [hRp]; omega⟩, by unfold OS.knows; rw [hks]; simp, hRl⟩
  have R1ok := rok S1 R1 z1 (by rw [← hS1]; rfl) (by rw [← hS1]; rfl) (by rw [← hS1]; rfl) e1 hR1
  have R2ok := rok S2 R2 z2 (by rw [← hS2]; rfl) (by rw [← hS2]; rfl) (by rw [← hS2]; rfl) e2 hR2
  have WY : R1.why g c z1.length = 10 := by
    unfold OS.why
    rw [if_neg (by simp [hm]; omega), if_neg (by rw [R1ok.2.2, e1]; simp), if_pos R1ok.2.1]
  have HSEAL1 : Hid (∀ w' F p q, Orc p q S1 w' F → Lies (fun k => k < w.heap.size) w' (.slice a1 L c1) (z1.map (Value.int .u8)) → (∀ k, k < w.heap.size → ¬ F k ∧ k < w'.heap.size) → Calls Try.prog 13 #[.pointer (some ⟨p, 0, none⟩), nv g c, .slice a1 L c1] w' fun e w'' => ∃ v, e = .returned (.tuple #[v, .int .i64 0]) ∧ Fine (Orc p q R1) w' F v (cz.map (Value.int .u8)) w'' ∧ Capd v) := by
    intro w' F p q ho hl hj
    have := seal_ok ho hok1 hpl1 g c HFI.out _ z1 hl hj W1
    rw [hcz, hR1] at this
    exact this
  have HSEAL2 : Hid (∀ w' F p q, Orc p q S2 w' F → Lies (fun k => k < w.heap.size) w' (.slice a2 L c2) (z2.map (Value.int .u8)) → (∀ k, k < w.heap.size → ¬ F k ∧ k < w'.heap.size) → Calls Try.prog 13 #[.pointer (some ⟨p, 0, none⟩), nv g c, .slice a2 L c2] w' fun e w'' => ∃ v, e = .returned (.tuple #[v, .int .i64 0]) ∧ Fine (Orc p q R2) w' F v (cz.map (Value.int .u8)) w'' ∧ Capd v) := by
    intro w' F p q ho hl hj
    have := seal_ok ho hok2 hpl2 g c HFI.out _ z2 hl hj W2
    rw [hcz2, hR2] at this
    exact this
  have HAGAIN : Hid (∀ w' F p q, Orc p q R1 w' F → Lies (fun k => k < w.heap.size) w' (.slice a1 L c1) (z1.map (Value.int .u8)) → Calls Try.prog 13 #[.pointer (some ⟨p, 0, none⟩), nv g c, .slice a1 L c1] w' fun e w'' => e = .returned (.tuple #[.slice none 0 0, .int .i64 10]) ∧ Chg no w' w'') := by
    intro w' F p q ho hl
    have := seal_err ho g c HFI.out _ z1 hl (by omega) R1ok.1.l2 (by rw [WY]; decide)
    rw [WY] at this
    exact this
  have HCL : Hid (cz.length = 12 + L ∧ Bytes cz) := ⟨by rw [CL, e1], CB⟩
  have HOPEN1 : Hid (∀ w' F p q J x cx, Orc p q R1 w' F → Lies J w' (.slice x (12 + L) cx) (cz.map (Value.int .u8)) → 12 + L ≤ cx → cx ≤ maxLen → Calls Try.prog 17 #[.pointer (some ⟨p, 0, none⟩), .slice x (12 + L) cx] w' fun e w'' => ∃ v, e = .returned (.tuple #[v, .int .i64 0]) ∧ New w' z1 v w'') := by
    intro w' F p q J x cx ho hl hc1 hc2
    have := open_any ho R1ok.1 x cx cz (by have := HCL.out.1; omega) (by rw [HCL.out.1]; exact hl) HCL.out.2 (by have := HCL.out.1; omega) hc2
    rw [HCL.out.1] at this
    unfold Opened at this
    rw [B1.1, B1.2] at this
    exact this
  have HOPEN2 : Hid (∀ w' F p q J x cx, Orc p q R2 w' F → Lies J w' (.slice x (12 + L) cx) (cz.map (Value.int .u8)) → 12 + L ≤ cx → cx ≤ maxLen → Calls Try.prog 17 #[.pointer (some ⟨p, 0, none⟩), .slice x (12 + L) cx] w' fun e w'' => ∃ v, e = .returned (.tuple #[v, .int .i64 0]) ∧ New w' z2 v w'') := by
    intro w' F p q J x cx ho hl hc1 hc2
    have := open_any ho R2ok.1 x cx cz (by have := HCL.out.1; omega) (by rw [HCL.out.1]; exact hl) HCL.out.2 (by have := HCL.out.1; omega) hc2
    rw [HCL.out.1] at this
    unfold Opened at this
    rw [B2.1, B2.2] at this
    exact this
  have HNEW1 : Hid (∀ w' q tv, Tpe w' q tv 0 f → Calls Try.prog 10 #[.pointer (some ⟨q, 0, none⟩), .int .i64 L] w' fun e w'' => ∃ p, e = .returned (.tuple #[.pointer (some ⟨p, 0, none⟩), .int .i64 0]) ∧ Orc p q S1 w'' (fun k => k = q ∨ tv.ownBlock = some k ∨ (w'.heap.size ≤ k ∧ k < w''.heap.size)) ∧ Chg no w' w'') := by
    intro w' q tv ht
    have := new_ok ht L l1 (by omega)
    rw [hS1] at this
    exact this
  have HNEW2 : Hid (∀ w' q tv, Tpe w' q tv 0 f2 → Calls Try.prog 10 #[.pointer (some ⟨q, 0, none⟩), .int .i64 L] w' fun e w'' => ∃ p, e = .returned (.tuple #[.pointer (some ⟨p, 0, none⟩), .int .i64 0]) ∧ Orc p q S2 w'' (fun k => k = q ∨ tv.ownBlock = some k ∨ (w'.heap.size ≤ k ∧ k < w''.heap.size)) ∧ Chg no w' w'') := by
    intro w' q tv ht
    have := new_ok ht L l1 (by omega)
    rw [hS2] at this
    exact this
  have HA0 : Hid (∀ w', Chg no w w' → Lies (fun k => k < w.heap.size) w' (.slice a0 z0.length c0) (z0.map (Value.int .u8))) := fun w' k => h0.chg k (fun _ _ h => h)
  have HA1 : Hid (∀ w', Chg no w w' → Lies (fun k => k < w.heap.size) w' (.slice a1 L c1) (z1.map (Value.int .u8))) := fun w' k => h1.chg k (fun _ _ h => h)
  have HA2 : Hid (∀ w', Chg no w w' → Lies (fun k => k < w.heap.size) w' (.slice a2 L c2) (z2.map (Value.int .u8))) := fun w' k => h2.chg k (fun _ _ h => h)
  have HE1 : Hid (z1.length = L ∧ z2.length = L) := ⟨e1, e2⟩
  clear h0 b0 h1 b1 h2 b2 e1 e2 hm hM hf hf2 hcz hcz2 hS1 hS2 hR1 hR2 why W1 W2 B1 B2 CB CL hok1 hok2 hpl1 hpl2 nk1 nk2 rok R1ok R2ok WY
  obtain ⟨hM1, hM2⟩ := hM1
  go_enter Try.func5, Try.ntmps5
  go_wp2_with fail
  refine (first_any _).mono ?_
  rintro e w1 ⟨rfl, k1⟩
  have HRF := rfill_any w1 (.slice a0 z0.length c0) z0 M (HA0.out _ k1) (by omega)
  rw [HF.out] at HRF
  go_wp2_with fail
  refine HRF.mono ?_
  rintro e w2 ⟨rfl, g2', k2⟩
  have K2 := k1.then k2
  obtain ⟨T, hT⟩ : ∃ T, w1.heap.size = T := ⟨_, rfl⟩
  rw [hT] at g2' ⊢
  have HFL : Hid (∀ w', Chg no w2 w' → Lies (fun _ => True) w' (.slice (some ⟨T, 0, none⟩) M M) (f.map (Value.int .u8))) := by
    intro w' k
    have := (block_lies g2').mono (K := fun _ => True) (fun _ _ => trivial)
    rw [HFB.out.2] at this
    exact this.chg k (fun _ _ h => h)
  have HP1 := newPads_any (.slice (some ⟨T, 0, none⟩) M M) f _ w2 (HFL.out _ (Chg.refl no w2)) (by have := HFB.out.2; omega)
  have hs2 := K2.size
  clear HRF k1 k2 hT g2'
  go_wp2_with fail
  refine HP1.mono ?_
  rintro e w3 ⟨q1, tv1, rfl, T3, hq1, htv1, k3, hql1⟩
  have HN1 := HNEW1.out w3 q1 tv1 T3
  have hs3 := k3.size
  clear HP1 T3
  go_wp2_with fail
  refine HN1.mono ?_
  rintro e w4 ⟨p1, rfl, O4, k4⟩
  have k24 := k3.then k4
  have K4 := K2.then k24
  have hs4 := k4.size
  obtain ⟨F1, hF1⟩ : ∃ F : Nat → Prop, F = fun k => k = q1 ∨ tv1.ownBlock = some k ∨ (w3.heap.size ≤ k ∧ k < w4.heap.size) := ⟨_, rfl⟩
  have HB1 : Hid (∀ k, F1 k → w2.heap.size ≤ k ∧ k < w4.heap.size) := by
    intro k hk
    rw [hF1] at hk
    rcases hk with e | e | e
    · omega
    · have := htv1 k e
      omega
    · omega
  rw [← hF1] at O4
  have C5 := sealXors.xor_two w4 _ _ _ f z1 z2 (HFL.out _ k24) ((HA1.out _ K4).mono (fun _ _ => trivial)) ((HA2.out _ K4).mono (fun _ _ => trivial)) (by have := HFB.out.2; omega) (by have := HE1.out; omega) (by have := HE1.out; omega)
  rw [HF2.out] at C5
  have HO4 : Hid (Orc p1 q1 S1 w4 F1) := O4
  clear HN1 hF1 htv1 k3 k4 k24 hq1 hql1 O4
  go_wp2_with fail
  refine C5.mono ?_
  rintro e w5 ⟨v5, rfl, N5⟩
  obtain ⟨x5, d5, rfl⟩ := N5.shape
  have K5 := K4.then N5.2
  have hs5 := N5.2.size
  have HP2 := newPads_any _ f2 _ w5 N5.lies (by have := HF2B.out.2; omega)
  have HK45 : Hid (Chg no w4 w5) := N5.2
  simp only [HF2B.out.2] at HP2 ⊢
  clear C5 N5 HFL
  go_wp2_with fail
  refine HP2.mono ?_
  rintro e w6 ⟨q2, tv2, rfl, T6, hq2, htv2, k6, hql2⟩
  have HN2 := HNEW2.out w6 q2 tv2 T6
  have hs6 := k6.size
  clear HP2 T6
  go_wp2_with fail
  refine HN2.mono ?_
  rintro e w7 ⟨p2, rfl, O7, k7⟩
  have K7 := (K5.then k6).then k7
  have hs7 := k7.size
  obtain ⟨F2, hF2⟩ : ∃ F : Nat → Prop, F = fun k => k = q2 ∨ tv2.ownBlock = some k ∨ (w6.heap.size ≤ k ∧ k < w7.heap.size) := ⟨_, rfl⟩
  have HB2 : Hid (∀ k, F2 k → w5.heap.size ≤ k ∧ k < w7.heap.size) := by
    intro k hk
    rw [hF2] at hk
    rcases hk with e | e | e
    · omega
    · have := htv2 k e
      omega
    · omega
  rw [← hF2] at O7
  have kA : Chg no w7 (w7.alloc (.cells #[.int .i64 g, .int .i64 c] 40)) := (Chg.refl no w7).alloc _
  have gA : (w7.alloc (.cells #[.int .i64 g, .int .i64 c] 40)).heap[w7.heap.size]? = some (.cells #[.int .i64 g, .int .i64 c] 40 (0, 0)) := heap_alloc_new _ _
  have sA : (w7.alloc (.cells #[.int .i64 g, .int .i64 c] 40)).heap.size = w7.heap.size + 1 := by simp
  obtain ⟨w8, hw8⟩ : ∃ w8, w7.alloc (.cells #[.int .i64 g, .int .i64 c] 40) = w8 := ⟨_, rfl⟩
  rw [hw8] at kA gA sA
  have O8 : Orc p1 q1 S1 w8 F1 := ((HO4.out.chg HK45.out (fun _ _ h => h)).chg ((k6.then k7).then kA) (fun _ _ h => h))
  have K8 := K7.then kA
  have HP8 : Hid (Orc p2 q2 S2 w8 F2) := O7.chg kA (fun _ _ h => h)
  have hp1 := HO4.out.plt
  have hp2 := O7.plt
  obtain ⟨Nn, hNn⟩ : ∃ Nn, w7.heap.size = Nn := ⟨_, rfl⟩
  have HS1 := HSEAL1.out w8 F1 p1 q1 O8 (HA1.out _ K8) (fun k hk => ⟨fun e => by have := HB1.out k e; omega, by omega⟩)
  rw [hNn] at gA sA
  obtain ⟨aa0, bb0⟩ := row_cell (xs := [_, _]) gA 0 _ rfl
  obtain ⟨aa1, bb1⟩ := row_cell (xs := [_, _]) gA 1 _ rfl
  have HGA : Hid (w8.heap[Nn]? = some (.cells #[.int .i64 g, .int .i64 c] 40 (0, 0))) := gA
  have HNn : Hid (w7.heap.size = Nn ∧ w8.heap.size = Nn + 1) := ⟨hNn, sA⟩
  have hNl : Nn < w8.heap.size := by omega
  clear HN2 hF2 htv2 k6 k7 hq2 hql2 O7 HK45 HO4 gA O8 kA K7 K5 K4 K2 sA
  go_wp2_with fail
  refine HS1.mono ?_
  rintro e w9 ⟨v9, rfl, ⟨G1, O9, hG1, hL9, cg9⟩, x9, xl9, y9, rfl, hc91, hc92⟩
  obtain ⟨x9', y9', hv9, _⟩ := hL9.slice
  rw [List.length_map, HCL.out.1] at hv9
  cases hv9
  have K9 : Chg no w w9 := K8.trans cg9 (fun k hk => .inr (by have := HB1.out k hk; omega))
  have s9 := cg9.size
  have P9 : Orc p2 q2 S2 w9 F2 := HP8.out.chg cg9 (fun k hk e => by have h1 := HB1.out k e; have h2 := HB2.out k hk; omega)
  have g9 := cg9.heap HGA.out (fun e => by have h1 := HB1.out _ e; have := HNn.out; omega)
  have HS2 := HSEAL2.out w9 F2 p2 q2 P9 (HA2.out _ K9) (fun k hk => ⟨fun e => by have := HB2.out k e; omega, by omega⟩)
  have HO9 : Hid (Orc p1 q1 R1 w9 G1) := O9
  have HG1 : Hid (∀ k, G1 k → (F1 k ∨ w8.heap.size ≤ k) ∧ k < w9.heap.size) := hG1
  have HL9 : Hid (Lies (fun k => w8.heap.size ≤ k ∧ k < w9.heap.size ∧ ¬ G1 k) w9 (.slice x9 (12 + L) y9) (cz.map (Value.int .u8))) := hL9
  clear HS1 HP8 aa0 aa1 bb0 bb1 P9 O9 hG1 hL9 cg9 K8
  obtain ⟨aa0, bb0⟩ := row_cell (xs := [_, _]) g9 0 _ rfl
  obtain ⟨aa1, bb1⟩ := row_cell (xs := [_, _]) g9 1 _ rfl
  have hNl9 : Nn < w9.heap.size := by omega
  go_wp2_with fail
  refine HS2.mono ?_
  rintro e wA ⟨vA, rfl, ⟨G2, OA, hG2, hLA, cgA⟩, xA, xlA, yA, rfl, hcA1, hcA2⟩
  obtain ⟨xA', yA', hvA, _⟩ := hLA.slice
  rw [List.length_map, HCL.out.1] at hvA
  cases hvA
  have KA : Chg no w wA := K9.trans cgA (fun k hk => .inr (by have := HB2.out k hk; omega))
  have sA := cgA.size
  have QA : Orc p1 q1 R1 wA G1 := HO9.out.chg cgA (fun k hk e => by
    have h2 := HB2.out k e
    rcases (HG1.out k hk).1 with e1 | e1
    · have h1 := HB1.out k e1
      omega
    · have := HNn.out
      omega)
  have gAA := cgA.heap g9 (fun e => by have h1 := HB2.out _ e; have := HNn.out; omega)
  have LXA := (Lies.chg HL9.out cgA (fun k hk e => by have h1 := HB2.out _ e; have := HNn.out; omega)).mono (K := fun _ => True) (fun _ _ => trivial)
  have LYA := hLA.mono (K := fun _ => True) (fun _ _ => trivial)
  have HAG := HAGAIN.out wA G1 p1 q1 QA (HA1.out _ KA)
  have HOA : Hid (Orc p2 q2 R2 wA G2) := OA
  have HQA : Hid (Orc p1 q1 R1 wA G1) := QA
  have HLX : Hid (∀ w', Chg no wA w' → Lies (fun _ => True) w' (.slice x9 (12 + L) y9) (cz.map (Value.int .u8))) := fun w' k => LXA.chg k (fun _ _ h => h)
  have HLY : Hid (∀ w', Chg no wA w' → Lies (fun _ => True) w' (.slice xA (12 + L) yA) (cz.map (Value.int .u8))) := fun w' k => LYA.chg k (fun _ _ h => h)
  clear HS2 aa0 aa1 bb0 bb1 OA hG2 hLA cgA K9 g9 LXA LYA QA HO9 HL9
  obtain ⟨aa0, bb0⟩ := row_cell (xs := [_, _]) gAA 0 _ rfl
  obtain ⟨aa1, bb1⟩ := row_cell (xs := [_, _]) gAA 1 _ rfl
  have hNlA : Nn < wA.heap.size := by omega
  go_wp2_with fail
  refine HAG.mono ?_
  rintro e wB ⟨rfl, kB⟩
  have KB := KA.then kB
  have HO1 := HOPEN1.out wB G1 p1 q1 _ x9 y9 (HQA.out.chg kB (fun _ _ h => h)) (HLX.out _ kB) hc91 hc92
  clear HAG aa0 aa1 bb0 bb1 gAA
  go_wp2_with fail
  refine HO1.mono ?_
  rintro e wC ⟨vC, rfl, NC⟩
  obtain ⟨xC, yC, rfl⟩ := NC.shape
  have kC := kB.then NC.2
  have KC := KB.then NC.2
  have HLC : Hid (∀ w', Chg no wC w' → Lies (fun _ => True) w' (.slice xC L yC) (z1.map (Value.int .u8))) := by
    intro w' k
    have := (NC.lies.chg k (fun _ _ h => h)).mono (K := fun _ => True) (fun _ _ => trivial)
    rw [HE1.out.1] at this
    exact this
  have HO2 := HOPEN2.out wC G2 p2 q2 _ xA yA (HOA.out.chg kC (fun _ _ h => h)) (HLY.out _ kC) hcA1 hcA2
  simp only [HE1.out.1]
  clear HO1 NC KB kB KA
  go_wp2_with fail
  refine HO2.mono ?_
  rintro e wD ⟨vD, rfl, ND⟩
  obtain ⟨xD, yD, rfl⟩ := ND.shape
  have HkD : Hid (Chg no wA wD) := kC.then ND.2
  have KD := KC.then ND.2
  have HkCD : Hid (Chg no wC wD) := ND.2
  have HLD : Hid (∀ w', Chg no wD w' → Lies (fun _ => True) w' (.slice xD L yD) (z2.map (Value.int .u8))) := by
    intro w' k
    have := (ND.lies.chg k (fun _ _ h => h)).mono (K := fun _ => True) (fun _ _ => trivial)
    rw [HE1.out.2] at this
    exact this
  simp only [HE1.out.2]
  clear HO2 ND kC KC
  go_wp2_with fail
  refine (first_any _).mono ?_
  rintro e wE ⟨rfl, kE⟩
  have KE := KD.then kE
  have HBX := bytes_same (HLX.out _ (HkD.out.then kE)) (HLY.out _ (HkD.out.then kE))
  have HBU := bytes_same (HLC.out _ (HkCD.out.then kE)) (HA1.out _ KE)
  have HBV := bytes_same (HLD.out _ kE) (HA2.out _ KE)
  clear HLX HLY HLC HLD HkD HkCD KD kE
  go_wp2_with fail
  refine HBX.mono ?_
  rintro e wF ⟨rfl, rfl⟩
  clear HBX
  go_wp2_with fail
  refine HBU.mono ?_
  rintro e wG ⟨rfl, rfl⟩
  clear HBU
  go_wp2_with fail
  refine HBV.mono ?_
  rintro e wH ⟨rfl, rfl⟩
  clear HBV
  go_wp2
  go_ret
  exact ⟨rfl, KE.below⟩

theorem walk (w : World) (a0 : Option Addr) (l0 c0 : Nat) (z0 : List Int) (a1 : Option Addr) (l1 c1 : Nat) (z1 : List Int) (a2 : Option Addr) (l2 c2 : Nat) (z2 : List Int) (g c : Int)
    (w0 : Lies (Old w) w (.slice a0 l0 c0) (z0.map (Value.int .u8)) ∧ Bytes z0) (k0 : l0 ≤ c0) (w1 : Lies (Old w) w (.slice a1 l1 c1) (z1.map (Value.int .u8)) ∧ Bytes z1) (k1 : l1 ≤ c1) (w2 : Lies (Old w) w (.slice a2 l2 c2) (z2.map (Value.int .u8)) ∧ Bytes z2) (k2 : l2 ≤ c2) (w3 : (Lit.int .i64 g).wf = true) (w4 : (Lit.int .i64 c).wf = true) :
    Calls Try.prog 5 #[.slice a0 l0 c0, .slice a1 l1 c1, .slice a2 l2 c2, .int .i64 g, .int .i64 c] w fun e w' => e = .returned (.bool true) ∧ Below w.heap.size w w' := by
  by_cases hh : l1 < 1 ∨ 100 < l1 ∨ l2 ≠ l1 ∨ 1000 < l0 ∨ g < 1 ∨ 1000 < g ∨ c < 0 ∨ 1000 < c
  · exact early w a0 l0 c0 a1 l1 c1 a2 l2 c2 g c hh
  · have hx : ∀ {a : Option Addr} {l cc : Nat} {z : List Int}, Lies (Old w) w (.slice a l cc) (z.map (Value.int .u8)) → l = z.length := by
      intro a l cc z h
      obtain ⟨x, y, e, _⟩ := h.slice
      cases e
      rw [List.length_map]
    have e0 := hx w0.1
    have e1 := hx w1.1
    have e2 := hx w2.1
    obtain rfl : l2 = l1 := by omega
    subst e0
    exact late w a0 c0 z0 a1 c1 z1 a2 c2 z2 g c l2 w0.1 w0.2 w1.1 w1.2 w2.1 w2.2 (by omega) e1.symm e2.symm (by omega) (by omega) (by omega) (by omega) (by omega) (by omega)

theorem own : ownKnob Try.prog.godebug = none := by kernel_rfl
theorem laidOut : laidOutB Try.prog = true := by kernel_rfl

set_option maxRecDepth 100000 in
theorem lifted (os : Os) (started : os.Started) (H : Type) (enc : TypeId × Value → H) :
    ReturnsInHanded {} Try.checked os 5 .any (Rows.sealAlikeSpec.pre6 enc Try.prog Try.f5 Rows.sealAlikeRow.domain false) (Rows.sealAlikeSpec.post enc Try.prog Try.f5 false true false false) := by
  refine returnsInHanded_of_change (C := Try.checked) own started (by kernel_rfl) Try.func5
    (ChangeSpec.witness6 (enc := enc) (C := Try.checked) false ⟨#[], #[.slice none 0 0, .slice none 0 0, .slice none 0 0, .int .i64 0, .int .i64 0], []⟩ 8 (by kernel_rfl) (by kernel_rfl) (by kernel_rfl) (by kernel_rfl)) ?_
  intro W base args ds gs before hval0 hW hcnd _
  have hval : ∀ (j : Nat) t v, Try.f5.params[j]? = some t → args[j]? = some v → Value.okWide Try.prog W .any base t v := hval0
  have hW' := hW
  obtain ⟨p, q, hA0, hV, rfl, hfz, hnd⟩ := hW
  have hA : DataW.TrodAll enc Try.prog W 0 (fun _ => true) true Try.f5.params.toList args.toList ds p := hA0
  rw [Try.params5] at hA hval
  obtain ⟨v0, vs0, d0, ds0, p0, q0, hargs, rfl, rfl, h0, r0⟩ := trodAll_cons hA
  obtain ⟨v1, vs1, d1, ds1, p1, q1, rfl, rfl, rfl, h1, r1⟩ := trodAll_cons r0
  obtain ⟨v2, vs2, d2, ds2, p2, q2, rfl, rfl, rfl, h2, r2⟩ := trodAll_cons r1
  obtain ⟨v3, vs3, d3, ds3, p3, q3, rfl, rfl, rfl, h3, r3⟩ := trodAll_cons r2
  obtain ⟨v4, vs4, d4, ds4, p4, q4, rfl, rfl, rfl, h4, r4⟩ := trodAll_cons r3
  obtain ⟨rfl, rfl, rfl⟩ := trodAll_nil r4
  obtain rfl : args = #[v0, v1, v2, v3, v4] := by cases args; simp_all
  obtain ⟨rfl, rfl⟩ := trodVars_none hV
  obtain ⟨a0, len0, cap0, rfl⟩ := okWide_slice Try.underlying22 (hval 0 22 v0 rfl rfl)
  have k0 := h0
  have lt0 : ∀ x ∈ p0, x.block < W.heap.size := by obtain ⟨m, hm⟩ := k0; exact DataW.trod_lt m _ _ _ hm
  have c0 : len0 ≤ cap0 := by obtain ⟨m, hm⟩ := k0; exact (open_cap Try.underlying22 hm).1
  obtain ⟨z0, w0⟩ := (by obtain ⟨fuel, hf⟩ := h0; exact open_bytes hf : ∃ z : List Int, Lies (Old W) W (.slice a0 len0 cap0) (z.map (Value.int .u8)) ∧ Bytes z)
  obtain ⟨a1, len1, cap1, rfl⟩ := okWide_slice Try.underlying22 (hval 1 22 v1 rfl rfl)
  have k1 := h1
  have lt1 : ∀ x ∈ p1, x.block < W.heap.size := by obtain ⟨m, hm⟩ := k1; exact DataW.trod_lt m _ _ _ hm
  have c1 : len1 ≤ cap1 := by obtain ⟨m, hm⟩ := k1; exact (open_cap Try.underlying22 hm).1
  obtain ⟨z1, w1⟩ := (by obtain ⟨fuel, hf⟩ := h1; exact open_bytes hf : ∃ z : List Int, Lies (Old W) W (.slice a1 len1 cap1) (z.map (Value.int .u8)) ∧ Bytes z)
  obtain ⟨a2, len2, cap2, rfl⟩ := okWide_slice Try.underlying22 (hval 2 22 v2 rfl rfl)
  have k2 := h2
  have lt2 : ∀ x ∈ p2, x.block < W.heap.size := by obtain ⟨m, hm⟩ := k2; exact DataW.trod_lt m _ _ _ hm
  have c2 : len2 ≤ cap2 := by obtain ⟨m, hm⟩ := k2; exact (open_cap Try.underlying22 hm).1
  obtain ⟨z2, w2⟩ := (by obtain ⟨fuel, hf⟩ := h2; exact open_bytes hf : ∃ z : List Int, Lies (Old W) W (.slice a2 len2 cap2) (z.map (Value.int .u8)) ∧ Bytes z)
  obtain ⟨a3, rfl, rfl, rfl, w3⟩ := open_int Try.underlying3 (hval 3 3 v3 rfl rfl) h3
  obtain ⟨a4, rfl, rfl, rfl, w4⟩ := open_int Try.underlying3 (hval 4 3 v4 rfl rfl) h4
  clear hA0 hval0
  refine (walk W a0 len0 cap0 z0 a1 len1 cap1 z1 a2 len2 cap2 z2 a3 a4 w0 c0 w1 c1 w2 c2 w3 w4).mono fun e W' ⟨he, bel⟩ => ?_
  subst he
  exact ⟨_, rfl, _, _, _, [], _, [], hW', trodAll_mk1 (shut_bool Try.underlying4 _), (trodAll_cons_mk (Below.trod laidOut (by kernel_rfl) (of_decide_eq_true (by kernel_rfl)) k0 bel lt0) (trodAll_cons_mk (Below.trod laidOut (by kernel_rfl) (of_decide_eq_true (by kernel_rfl)) k1 bel lt1) (trodAll_cons_mk (Below.trod laidOut (by kernel_rfl) (of_decide_eq_true (by kernel_rfl)) k2 bel lt2) (trodAll_cons_mk (shut_int Try.underlying3 w3) (trodAll_cons_mk (shut_int Try.underlying3 w4) trodAll_mk0))))), rfl, bel.frame _, fun h => by cases h⟩

theorem over : Rows.sealAlikeRow.holds Try.pinned (OpenSpec.ofChange Rows.sealAlikeSpec) :=
  OpenClaim.holds_of_wide 5 Try.f5 rfl rfl rfl rfl rfl rfl rfl ⟨rfl, rfl, rfl, rfl, rfl⟩ rfl rfl rfl rfl rfl (by kernel_rfl) Try.func5 (by kernel_rfl)
    (of_decide_eq_true (by kernel_rfl)) (by unfold Func.isWrapper; first | (rw [if_pos (by decide +kernel)]; kernel_rfl) | (rw [if_neg (by decide +kernel)]; exact ⟨rfl, rfl⟩))
    (fun os started H enc _ => lifted os started H enc)

theorem proved : Rows.SealAlikeSaid := over
#print axioms proved
end Go.Proofs.Ytmchjnmmeankgaa.sealAlike
namespace Go.Proofs.Ytmchjnmmeankgaa
theorem sealAlike_holds : Rows.SealAlikeSaid := sealAlike.proved
#print axioms sealAlike_holds
end Go.Proofs.Ytmchjnmmeankgaa
