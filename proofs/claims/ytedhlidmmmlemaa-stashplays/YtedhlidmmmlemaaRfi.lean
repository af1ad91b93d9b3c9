/- Contracts of the document's Find and IDs. -/
import Derived.Test.YtedhlidmmmlemaaNew
namespace Go.Proofs.Ytedhlidmmmlemaa.st
open Go.ChangeShapes Go.WideShapes Go.ChangeAt Go.RowKit Go.Proofs.Ytedhlidmmmlemaa.hp
set_option linter.unusedVariables false
set_option linter.unusedSimpArgs false

def findL (L : List Bk) (id : Int) : Int := if hasL L id then (posL L id : Nat) else -1

theorem find_at {L : List Bk} (hs : srt L) {id : Int} {k : Nat} (hk : k < L.length) (he : (L.getD k dBk).1 = id) : findL L id = k := by
  have e : k = posL L id := pos_eq L id k (by omega) (fun j hj => by have := srt_get hs j k hj hk; omega) (fun _ => by omega)
  have hh : hasL L id = true := by
    unfold hasL
    rw [← e]
    exact decide_eq_true ⟨hk, he⟩
  unfold findL
  rw [hh, if_pos rfl, ← e]

theorem find_none {L : List Bk} (hs : srt L) {id : Int} (h : ∀ j, j < L.length → (L.getD j dBk).1 ≠ id) : findL L id = -1 := by
  unfold findL
  rw [if_neg]
  intro hh
  obtain ⟨h1, h2⟩ := has_at hh
  exact h _ h1 h2

/-- The i-th block of a row of the caller's own. -/
theorem Stw.at {T e : TypeId} {F D : Nat → Prop} {p : Nat} {v : Value} {xs : List BV} {m : Nat} {w : World} (h : Stw T e F D p v xs m w) (i : Nat) (hi : i < xs.length) :
    ∃ g c ab cb, v = .slice (some ⟨g, 0, none⟩) xs.length c ∧ w.cell? ⟨g, i * 2, none⟩ = some (.int .i64 (xs.getD i dBV).id) ∧ w.cell? ⟨g, i * 2 + 1, none⟩ = some (.slice ab (xs.getD i dBV).d.length cb) ∧ (xs.getD i dBV).v = .slice ab (xs.getD i dBV).d.length cb ∧
      Lies D w (.slice ab (xs.getD i dBV).d.length cb) ((xs.getD i dBV).d.map (Value.int .u8)) ∧ Bytes (xs.getD i dBV).d ∧ g < w.heap.size := by
  rcases h.row.2 with ⟨_, h0⟩ | ⟨g, cap, cur, hh, _⟩
  · omega
  · have hb := h.bks
    rw [hh] at hb
    obtain ⟨y, ab, cb, e1, e2, e3, hv, _, hB, hlt, _⟩ := hb.at i hi
    simp only [Option.some.injEq] at e1
    subst e1
    simp only [Addr.add_lit, Nat.zero_add] at e2 e3 hlt
    have hm : xs.getD i dBV ∈ xs := by
      rw [List.getD_eq_getElem?_getD, List.getElem?_eq_getElem hi]
      exact List.getElem_mem _
    have hd := (h.dat _ hm).1
    rw [hv] at hd
    exact ⟨g, cap, ab, cb, hh, e2, e3, hv, hd, hB, hlt⟩

set_option maxRecDepth 100000 in
theorem rfind_any {F : Nat → Prop} {p : Nat} {L : List Bk} {m : Nat} {w : World} (h : St 32 37 F p L m w) (id : Int) : Calls Try.prog 16 #[pt p, .int .i64 id] w fun e w' => e = .returned (.int .i64 (findL L id)) ∧ w' = w := by
  obtain ⟨v, xs, D, h1, rfl, h3, h4, h5⟩ := h
  have hx : xs.length ≤ 64 := by rw [abs_len] at h4; omega
  have H1 : Hid (Stw 32 37 F D p v xs m w) := h1
  have HS : Hid (srt (abs xs)) := h3.1
  obtain ⟨d0, _, _, _, d4⟩ := h1.cells
  obtain ⟨a0, c0, hv⟩ := h1.shape
  subst hv
  obtain ⟨n, hn⟩ : ∃ n, xs.length = n := ⟨_, rfl⟩
  have HL : Hid (xs.length = n) := hn
  rw [hn] at hx d0
  have hni : (n : Int) ≤ 64 := by omega
  obtain ⟨R, hR⟩ : ∃ R, findL (abs xs) id = R := ⟨_, rfl⟩
  have HR : Hid (findL (abs xs) id = R) := hR
  rw [hR]
  clear h1 h3 h4 h5 hn hR
  go_enter Try.func16, Try.ntmps16
  go_wp2_with fail
  go_loop [5] (fun i => ∃ k : Nat, k ≤ n ∧ i = .int .i64 (k : Int) ∧ ∀ j, j < k → ((abs xs).getD j dBk).1 ≠ id) (fun i => n - (intOf i).toNat)
  case atStart => exact ⟨0, by omega, rfl, fun j h => by omega⟩
  case round =>
    obtain ⟨k, hk, rfl, hA⟩ := hrel
    have HA : Hid (∀ j, j < k → ((abs xs).getD j dBk).1 ≠ id) := hA
    clear hA
    by_cases hkn : k < n
    · have hki : (k : Int) < n := by omega
      obtain ⟨g, c, ab, cb, hv, e0, _⟩ := H1.out.at k (by rw [HL.out]; exact hkn)
      rw [HL.out] at hv
      simp only [Value.slice.injEq] at hv
      obtain ⟨rfl, _, rfl⟩ := hv
      obtain ⟨I, hI⟩ : ∃ I, (xs.getD k dBV).id = I := ⟨_, rfl⟩
      have HI : Hid (((abs xs).getD k dBk).1 = I) := by
        show _ = _
        rw [abs_getD, ← hI]
        rfl
      rw [hI] at e0
      by_cases he : I = id
      · subst he
        have hb : (I == I) = true := by simp
        have hR : R = (k : Int) := by
          rw [← HR.out]
          exact find_at HS.out (by rw [abs_len, HL.out]; exact hkn) HI.out
        subst hR
        clear hI HA
        go_wp2
        go_ret
        exact ⟨rfl, rfl⟩
      · have hb : (I == id) = false := by simpa using he
        have HA2 : Hid (∀ j, j < k + 1 → ((abs xs).getD j dBk).1 ≠ id) := by
          intro j hj
          by_cases e : j = k
          · subst e
            rw [HI.out]
            exact he
          · exact HA.out j (by omega)
        clear hI HA
        go_wp2
        go_round
        case rel => exact ⟨k + 1, by omega, by go_num, HA2.out⟩
        case measure => simp [intOf]; omega
    · obtain rfl : k = n := by omega
      have hki : (k : Int) ≤ k := by omega
      have hR : R = -1 := by
        rw [← HR.out]
        exact find_none HS.out (fun j hj => HA.out j (by rw [abs_len, HL.out] at hj; exact hj))
      subst hR
      clear HA
      go_wp2
      go_ret
      exact ⟨rfl, rfl⟩

set_option maxRecDepth 100000 in
set_option maxHeartbeats 4000000 in
theorem rids_any {F : Nat → Prop} {p : Nat} {L : List Bk} {m : Nat} {w : World} (h : St 32 37 F p L m w) :
    Calls Try.prog 23 #[pt p] w fun e w' => ∃ a c, e = .returned (.slice a L.length c) ∧ Lies (Old w') w' (.slice a L.length c) ((L.map (·.1)).map (Value.int .i64)) ∧ Chg no w w' := by
  obtain ⟨i0, hi, hz0, hz1, hz2⟩ := info_parts info3
  obtain ⟨v, xs, D, h1, rfl, h3, h4, h5⟩ := h
  have hx : xs.length ≤ 64 := by rw [abs_len] at h4; omega
  have H1 : Hid (Stw 32 37 F D p v xs m w) := h1
  obtain ⟨d0, _, _, _, d4⟩ := h1.cells
  obtain ⟨a0, c0, hv⟩ := h1.shape
  subst hv
  obtain ⟨ids, hids⟩ : ∃ ids, (abs xs).map (·.1) = ids := ⟨_, rfl⟩
  have HG : Hid (∀ k, k < xs.length → ids.getD k 0 = (xs.getD k dBV).id) := by
    intro k hk
    rw [← hids, List.getD_eq_getElem?_getD, List.getElem?_map]
    have := abs_getD xs k
    rw [List.getD_eq_getElem?_getD, List.getElem?_eq_getElem (by rw [abs_len]; exact hk)] at this
    rw [List.getElem?_eq_getElem (by rw [abs_len]; exact hk)]
    simp only [Option.getD_some] at this
    simp only [Option.map_some, Option.getD_some]
    rw [this]
    rfl
  rw [hids, abs_len]
  have hil : ids.length = xs.length := by rw [← hids, List.length_map, abs_len]
  obtain ⟨n, hn⟩ : ∃ n, xs.length = n := ⟨_, rfl⟩
  have HL : Hid (xs.length = n) := hn
  have HIL : Hid (ids.length = n) := by rw [← hn]; exact hil
  rw [hn] at hx d0 HG ⊢
  have hni : (n : Int) ≤ 64 := by omega
  have HDC : Hid (∀ W, Chg no w W → W.cell? ⟨p, 0, none⟩ = some (.slice a0 n c0) ∧ p < W.heap.size) := fun W k => ⟨k.cell d0 (fun h => h), Nat.lt_of_lt_of_le d4 k.size⟩
  clear h1 h3 h4 h5 hids hil hn d0 d4
  go_enter Try.func23, Try.ntmps23
  go_wp2_with fail
  go_loopw [3, 4] (fun u i wr => ∃ k : Nat, k ≤ n ∧ i = .int .i64 (k : Int) ∧ wr.ownsRow w.heap.size 3 1 u k ((ids.take k).map (Value.int .i64)) ∧ Chg no w wr) (fun _ i _ => n - (intOf i).toNat)
  case atStart => exact ⟨0, by omega, rfl, World.ownsRow_nil _ _ _ _, Chg.refl no w⟩
  case round =>
    obtain ⟨k, hk, rfl, hO, hC⟩ := hrel
    have HC : Hid (Chg no w wr) := hC
    have HO : Hid (wr.ownsRow w.heap.size 3 1 u3 k ((ids.take k).map (Value.int .i64))) := hO
    obtain ⟨d0, d4⟩ := HDC.out wr hC
    obtain ⟨a3, c3, hu⟩ := owns_shape hO
    subst hu
    by_cases hkn : k < n
    · have hki : (k : Int) < n := by omega
      obtain ⟨g, c, ab, cb, hv, e0, _⟩ := (H1.out.same hC).at k (by rw [HL.out]; exact hkn)
      rw [HL.out] at hv
      simp only [Value.slice.injEq] at hv
      obtain ⟨rfl, _, rfl⟩ := hv
      obtain ⟨I, hI⟩ : ∃ I, (xs.getD k dBV).id = I := ⟨_, rfl⟩
      have hG := HG.out k hkn
      rw [hI] at e0 hG
      have HA : Hid (∀ v' w', w'.ownsRow 0 3 1 v' (k + 1) ((ids.take k).map (Value.int .i64) ++ [.int .i64 I]) → (wr.alloc (.cells #[.int .i64 I] 3)).grownBy w' (Value.slice a3 k c3).ownBlock → (∀ b, v'.ownBlock = some b → (Value.slice a3 k c3).ownBlock = some b ∨ (wr.alloc (.cells #[.int .i64 I] 3)).heap.size ≤ b) → ∃ a4 c4, v' = .slice a4 (k + 1) c4 ∧ w'.ownsRow w.heap.size 3 1 (.slice a4 (k + 1) c4) (k + 1) ((ids.take (k + 1)).map (Value.int .i64)) ∧ Chg no w w') := by
        intro v' w' o g n'
        obtain ⟨a4, c4, rfl⟩ := owns_shape o
        have s1 := HC.out.size
        refine ⟨a4, c4, rfl, ?_, (HC.out.alloc _).grown g (fun b hb => .inr (HO.out.lt b hb).1)⟩
        rw [take_snoc ids k 0 (by rw [HIL.out]; exact hkn), hG, List.map_append]
        refine ⟨o.1, ?_⟩
        rcases o.2 with hh | ⟨b, cap, cur, e1, _, rest⟩
        · exact .inl hh
        · refine .inr ⟨b, cap, cur, e1, ?_, rest⟩
          rcases n' b (by rw [e1]; rfl) with e2 | e2
          · exact (HO.out.lt b e2).1
          · simp at e2
            omega
      have HO2 : Hid ((wr.alloc (.cells #[.int .i64 I] 3)).ownsRow 0 3 1 (.slice a3 k c3) k ((ids.take k).map (Value.int .i64))) := owns_base (((Chg.refl no wr).alloc _).owns hO (fun _ _ h => h)) (Nat.zero_le _)
      clear hO hC hI hG
      go_wp2_with (at_builtin; refine wpList_append_at rfl _ _ 52 rfl 3 i0 (.int .i64 0) 1 8 Try.underlying52 hi hz0 hz1 hz2 rfl (by decide) (.slice a3 k c3) k _ rfl HO2.out ⟨wr.heap.size, 0, none⟩ 1 1 [.int .i64 I] rfl rfl news_at (fun u hu => by simp at hu; subst hu; rfl) (by unfold maxLen; omega) (by omega) ?_; intro v5 w5 o5 g5 p5; obtain ⟨a5, c5, rfl, q1, q2⟩ := HA.out v5 w5 o5 g5 p5; have HQ1 : Hid _ := q1; have HQ2 : Hid _ := q2; clear o5 g5 p5 q1 q2)
      go_wp2
      go_roundw
      case rel => exact ⟨k + 1, by omega, by go_num, HQ1.out, HQ2.out⟩
      case measure => simp [intOf]; omega
    · obtain rfl : k = n := by omega
      have hki : (k : Int) ≤ k := by omega
      have HZ : Hid (Lies (Old wr) wr (.slice a3 k c3) (ids.map (Value.int .i64))) := by
        have h1 : ids.take k = ids := List.take_of_length_le (by rw [HIL.out]; omega)
        have h2 := HO.out
        rw [h1] at h2
        have := Lies.of_owns (J := fun _ => True) h2 (fun _ _ => trivial)
        exact Lies.old this
      clear hO hC
      go_wp2
      go_ret
      exact ⟨a3, c3, rfl, HZ.out, HC.out⟩

end Go.Proofs.Ytedhlidmmmlemaa.st
