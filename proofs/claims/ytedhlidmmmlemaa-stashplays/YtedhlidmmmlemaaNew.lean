/- The contract of New. -/
import Derived.Test.YtedhlidmmmlemaaAll
namespace Go.Proofs.Ytedhlidmmmlemaa.st
open Go.ChangeShapes Go.WideShapes Go.ChangeAt Go.RowKit Go.Proofs.Ytedhlidmmmlemaa.hp
set_option linter.unusedVariables false
set_option linter.unusedSimpArgs false

/-- What is there when these were put in order; how many there were at the most. -/
def putS (s : List Bk × Nat) (b : Bk) : List Bk × Nat := (putA s.1 b, mostA s.1 s.2 b)
def newS (l : List Bk) : List Bk × Nat := l.foldl putS ([], 0)

theorem newS_take (l : List Bk) (k : Nat) (hk : k < l.length) : newS (l.take (k + 1)) = putS (newS (l.take k)) (l.getD k dBk) := by
  unfold newS
  rw [take_snoc l k dBk hk, List.foldl_append]
  rfl

theorem st_new (T e : TypeId) (w : World) : St T e (fun k => k = w.heap.size) w.heap.size [] 0 (w.alloc (.cells #[.slice none 0 0, .int .i64 0] T)) := by
  refine ⟨.slice none 0 0, [], no, ⟨heap_alloc_new _ _, World.ownsRow_nil _ _ _ _, fun x hx => by simp at hx, rfl, fun k hk => by simp [Value.ownBlock] at hk, fun k hk => hk.elim, fun k hk => by subst hk; simp, fun h => h, fun k hk => by simp [Value.ownBlock] at hk⟩, rfl, okL.nil, by simp, by omega⟩

set_option maxRecDepth 100000 in
set_option maxHeartbeats 4000000 in
theorem new_any (w : World) (v : Value) (xs : List BV) (h : Bks w v xs) (hx : xs.length ≤ 100000) :
    Calls Try.prog 10 #[v] w fun e w' => ∃ p F, e = .returned (pt p) ∧ St 64 36 F p (newS (abs xs)).1 (newS (abs xs)).2 w' ∧ (∀ k, F k → w.heap.size ≤ k) ∧ Chg no w w' := by
  obtain ⟨a, cap, rfl⟩ := h.slice
  have HO : Hid (Bks w (.slice a xs.length cap) xs) := h
  obtain ⟨n, hn⟩ : ∃ n, xs.length = n := ⟨_, rfl⟩
  have HL : Hid (xs.length = n) := hn
  rw [hn] at HO hx ⊢
  have hni : (n : Int) ≤ 100000 := by omega
  have HS0 : Hid _ := st_new 64 36 w
  clear h hn
  go_enter Try.func10, Try.ntmps10
  go_wp2_with fail
  go_loopw [5, 10] (fun _ i wr => ∃ (k : Nat) (F : Nat → Prop), k ≤ n ∧ i = .int .i64 (k : Int) ∧ St 64 36 F w.heap.size (newS ((abs xs).take k)).1 (newS ((abs xs).take k)).2 wr ∧ (∀ b, F b → w.heap.size ≤ b) ∧ Chg no w wr) (fun _ i _ => n - (intOf i).toNat)
  case atStart => exact ⟨0, _, by omega, rfl, HS0.out, fun b hb => by subst hb; exact Nat.le_refl _, (Chg.refl no w).alloc _⟩
  case round =>
    clear HS0
    obtain ⟨k, F, hk, rfl, hS, hF, hC⟩ := hrel
    have HS : Hid (St 64 36 F w.heap.size (newS ((abs xs).take k)).1 (newS ((abs xs).take k)).2 wr) := hS
    have HF : Hid (∀ b, F b → w.heap.size ≤ b) := hF
    have HC : Hid (Chg no w wr) := hC
    by_cases hkn : k < n
    · have hki : (k : Int) < n := by omega
      obtain ⟨y, ab, cb, rfl, e0, e1, _, hLd, hBy, hlt, hne⟩ := (HO.out.later hC).at k (by rw [HL.out]; exact hkn)
      have HT := newS_take (abs xs) k (by rw [abs_len, HL.out]; exact hkn)
      rw [abs_getD] at HT
      obtain ⟨⟨i1, v1, zs⟩, hx1⟩ : ∃ X, xs.getD k dBV = X := ⟨_, rfl⟩
      rw [hx1] at e0 e1 hLd hBy HT
      simp only [BV.bk] at e0 e1 hLd hBy HT
      obtain ⟨l1, hl1⟩ : ∃ l, zs.length = l := ⟨_, rfl⟩
      rw [hl1] at e1 hLd
      have HTT : Hid (newS ((abs xs).take (k + 1)) = putS (newS ((abs xs).take k)) (i1, zs)) := HT
      have K1 : Chg no wr (wr.alloc (.cells #[.int .i64 i1, .slice ab l1 cb] 36)) := (Chg.refl no wr).alloc _
      have HP := put_any (hS.same K1) i1 ab l1 cb zs (Lies.later hLd K1) hBy hl1
      obtain ⟨B, hB⟩ : ∃ B, decide (okB (i1, zs)) = B := ⟨_, rfl⟩
      rw [hB] at HP
      clear hx1 hLd hBy HT hl1 hS hF hC hB K1
      go_wp2_with fail
      refine HP.mono ?_
      rintro e w2 ⟨rfl, S2, k2⟩
      have HR : Hid (∃ F', St 64 36 F' w.heap.size (newS ((abs xs).take (k + 1))).1 (newS ((abs xs).take (k + 1))).2 w2 ∧ (∀ b, F' b → w.heap.size ≤ b) ∧ Chg no w w2) := by
        have s1 := HC.out.size
        have K : Chg no w (wr.alloc (.cells #[.int .i64 i1, .slice ab l1 cb] 36)) := HC.out.alloc _
        have s2 := K.size
        rw [HTT.out]
        refine ⟨_, S2, fun b hb => ?_, K.trans k2 (fun b hb => .inr (HF.out b hb))⟩
        rcases hb with hb | hb
        · exact HF.out b hb
        · have := hb.1
          omega
      clear S2 k2 HP HS HF HC HTT
      go_wp2
      go_roundw
      case rel =>
        obtain ⟨F', r1, r2, r3⟩ := HR.out
        exact ⟨k + 1, F', by omega, by go_num, r1, r2, r3⟩
      case measure => simp [intOf]; omega
    · obtain rfl : k = n := by omega
      have hki : (k : Int) ≤ k := by omega
      have HZ : Hid (St 64 36 F w.heap.size (newS (abs xs)).1 (newS (abs xs)).2 wr) := by
        have := HS.out
        rwa [List.take_of_length_le (by rw [abs_len, HL.out]; omega)] at this
      clear hS hF hC HS
      go_wp2
      go_ret
      exact ⟨_, F, rfl, HZ.out, HF.out, HC.out⟩

end Go.Proofs.Ytedhlidmmmlemaa.st
