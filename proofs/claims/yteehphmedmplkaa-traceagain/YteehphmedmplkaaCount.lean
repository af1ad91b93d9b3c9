/- Contracts of Index, Contains, Has, Count. -/
import Derived.Test.YteehphmedmplkaaPlain
namespace Go.Proofs.Yteehphmedmplkaa.st
open Go.ChangeShapes Go.WideShapes Go.ChangeAt Go.RowKit Go.Proofs.Yteehphmedmplkaa.hp Go.Proofs.Yteehphmedmplkaa.md
set_option linter.unusedVariables false

/-- A list of numbers that a slice shows. -/
def Nums (w : World) (a : Option Addr) (n : Nat) (ks : List Int) : Prop := n = ks.length ∧ ∀ i w', Chg no w w' → i < ks.length → ∃ x, a = some x ∧ w'.cell? (x.add i) = some (.int .i64 (ks.getD i 0))

theorem nums_of {J : Nat → Prop} {w : World} {a : Option Addr} {n c : Nat} {ks : List Int} (h : Lies J w (.slice a n c) (ks.map (Value.int .i64))) : Nums w a n ks := by
  obtain ⟨a', c', hv, hc⟩ := h.slice
  cases hv
  refine ⟨by simp, fun i w' k hi => ?_⟩
  obtain ⟨x, rfl, _, hx⟩ := hc i (.int .i64 (ks.getD i 0)) (by rw [List.getElem?_map, List.getD_eq_getElem?_getD, List.getElem?_eq_getElem hi]; rfl)
  exact ⟨x, rfl, k.cell hx id⟩

theorem Nums.same {w w' : World} {a : Option Addr} {n : Nat} {ks : List Int} (h : Nums w a n ks) (c : Chg no w w') : Nums w' a n ks := ⟨h.1, fun i w'' k hi => h.2 i w'' (c.then k) hi⟩

/-- z is not among the first k. -/
def Miss (ks : List Int) (z : Int) (k : Nat) : Prop := ∀ i, i < k → ks.getD i 0 ≠ z

theorem Miss.more {ks : List Int} {z : Int} {k : Nat} (h : Miss ks z k) (hz : ks.getD k 0 ≠ z) : Miss ks z (k + 1) := by
  intro i hi
  by_cases h1 : i < k
  · exact h i h1
  · obtain rfl : i = k := by omega
    exact hz

theorem Miss.all {ks : List Int} {z : Int} (h : Miss ks z ks.length) : ¬ z ∈ ks := by
  intro hm
  obtain ⟨i, hi, he⟩ := List.mem_iff_getElem.1 hm
  refine h i hi ?_
  rw [List.getD_eq_getElem?_getD, List.getElem?_eq_getElem hi]
  exact he

theorem hit_mem {ks : List Int} {z : Int} {k : Nat} (hk : k < ks.length) (hz : ks.getD k 0 = z) : z ∈ ks := by
  rw [List.getD_eq_getElem?_getD, List.getElem?_eq_getElem hk] at hz
  simp at hz
  exact hz ▸ List.getElem_mem _

/-- Whether a number was found. -/
def Found (ks : List Int) (z : Int) (w : World) (e : Ending) (w' : World) : Prop := ∃ r : Int, e = .returned (.int .i64 r) ∧ decide (0 ≤ r) = decide (z ∈ ks) ∧ w' = w

set_option maxHeartbeats 1000000 in
theorem index_any {w : World} {a : Option Addr} {n c : Nat} {ks : List Int} (h : Nums w a n ks) (hb : n ≤ 1000000) (z : Int) :
    Calls Try.prog 60 #[.slice a n c, .int .i64 z] w (Found ks z w) := by
  have HN : Hid (Nums w a n ks) := h
  clear h
  go_enter Try.func60, Try.ntmps60
  go_wp2_with fail
  go_loopw [8] (fun i wr => ∃ k : Nat, k ≤ n ∧ i = .int .i64 (k : Int) ∧ Miss ks z k ∧ wr = w) (fun i _ => n - (intOf i).toNat)
  case atStart => exact ⟨0, by omega, rfl, fun i hi => by omega, rfl⟩
  case round =>
    obtain ⟨k, hk, rfl, hM, rfl⟩ := hrel
    by_cases hkn : k < n
    · have hki : (k : Int) < n := by omega
      have hkl : k < ks.length := by rw [← HN.out.1]; exact hkn
      obtain ⟨x, rfl, e0⟩ := HN.out.2 k _ (Chg.refl no _) hkl
      obtain ⟨u, hu⟩ : ∃ u, ks.getD k 0 = u := ⟨_, rfl⟩
      rw [hu] at e0
      by_cases huz : u = z
      · have HH : Hid (z ∈ ks) := hit_mem hkl (hu.trans huz)
        clear hM hu hkl
        subst huz
        go_wp2
        go_ret
        refine ⟨(k : Int), rfl, ?_, rfl⟩
        rw [decide_eq_decide]
        exact ⟨fun _ => HH.out, fun _ => by omega⟩
      · have HM : Hid (Miss ks z (k + 1)) := hM.more (by rw [hu]; exact huz)
        have huz' : ¬ z = u := fun e => huz e.symm
        clear hM hu hkl
        go_wp2
        go_roundw
        case rel => exact ⟨k + 1, by omega, by go_num, HM.out, by first | rfl | trivial⟩
        case measure => simp [intOf]; omega
    · obtain rfl : k = n := by omega
      have hki : (k : Int) ≤ k := by omega
      have HM : Hid (¬ z ∈ ks) := Miss.all (by rw [← HN.out.1]; exact hM)
      clear hM
      go_wp2
      go_ret
      refine ⟨-1, rfl, ?_, rfl⟩
      rw [decide_eq_decide]
      exact ⟨fun h => by omega, fun h => (HM.out h).elim⟩

theorem contains_any {w : World} {a : Option Addr} {n c : Nat} {ks : List Int} (h : Nums w a n ks) (hb : n ≤ 1000000) (z : Int) :
    Calls Try.prog 56 #[.slice a n c, .int .i64 z] w fun e w' => e = .returned (.bool (decide (z ∈ ks))) ∧ w' = w := by
  have HI := index_any (c := c) h hb z
  clear h
  go_enter Try.func56, Try.ntmps56
  go_wp2_with fail
  refine HI.mono ?_
  rintro e w1 ⟨r, rfl, hr, rfl⟩
  have HR : Hid (decide (0 ≤ r) = decide (z ∈ ks)) := hr
  clear hr
  go_wp2
  go_ret
  exact ⟨ret_bool HR.out, rfl⟩

set_option maxHeartbeats 1000000 in
theorem has_num {w : World} {a : Option Addr} {n c : Nat} {ks : List Int} (h : Nums w a n ks) (hb : n ≤ 1000000) (z : Int) :
    Calls Try.prog 57 #[.slice a n c, .int .i64 z] w fun e w' => e = .returned (.bool (decide (z ∈ ks))) ∧ w' = w := by
  have HN : Hid (Nums w a n ks) := h
  clear h
  go_enter Try.func57, Try.ntmps57
  go_wp2_with fail
  go_loopw [5] (fun i wr => ∃ k : Nat, k ≤ n ∧ i = .int .i64 (k : Int) ∧ Miss ks z k ∧ wr = w) (fun i _ => n - (intOf i).toNat)
  case atStart => exact ⟨0, by omega, rfl, fun i hi => by omega, rfl⟩
  case round =>
    obtain ⟨k, hk, rfl, hM, rfl⟩ := hrel
    by_cases hkn : k < n
    · have hki : (k : Int) < n := by omega
      have hkl : k < ks.length := by rw [← HN.out.1]; exact hkn
      obtain ⟨x, rfl, e0⟩ := HN.out.2 k _ (Chg.refl no _) hkl
      obtain ⟨u, hu⟩ : ∃ u, ks.getD k 0 = u := ⟨_, rfl⟩
      rw [hu] at e0
      by_cases huz : u = z
      · have HH : Hid (z ∈ ks) := hit_mem hkl (hu.trans huz)
        clear hM hu hkl
        subst huz
        go_wp2
        go_ret
        exact ⟨ret_bool (by simp [HH.out]), rfl⟩
      · have HM : Hid (Miss ks z (k + 1)) := hM.more (by rw [hu]; exact huz)
        clear hM hu hkl
        go_wp2
        go_roundw
        case rel => exact ⟨k + 1, by omega, by go_num, HM.out, by first | rfl | trivial⟩
        case measure => simp [intOf]; omega
    · obtain rfl : k = n := by omega
      have hki : (k : Int) ≤ k := by omega
      have HM : Hid (¬ z ∈ ks) := Miss.all (by rw [← HN.out.1]; exact hM)
      clear hM
      go_wp2
      go_ret
      exact ⟨ret_bool (by simp [HM.out]), rfl⟩

/-- How many are of one of these kinds; all, if none are named. -/
def hits (ks : List Int) (T : List Rec) : Nat := (T.filter fun x => ks.isEmpty || decide (x.kind ∈ ks)).length

theorem hits_le (ks : List Int) (T : List Rec) : hits ks T ≤ T.length := List.length_filter_le _ _

theorem hits_none (T : List Rec) : hits [] T = T.length := by simp [hits]

theorem hits_more (ks : List Int) (T : List Rec) (k : Nat) (hk : k < T.length) : hits ks (T.take (k + 1)) = hits ks (T.take k) + if (ks.isEmpty || decide ((T.getD k dR).kind ∈ ks)) = true then 1 else 0 := by
  unfold hits
  rw [List.take_add_one, List.filter_append, List.length_append, List.getD_eq_getElem?_getD, List.getElem?_eq_getElem hk]
  simp only [Option.toList_some, Option.getD_some, List.filter_cons, List.filter_nil]
  split <;> simp

set_option maxRecDepth 100000 in
set_option maxHeartbeats 2000000 in
theorem count_ops {J : Nat → Prop} {w : World} {a b : Option Addr} {n c n' c' : Nat} {T : List Rec} {ks : List Int} (hT : Tra J w (.slice a n c) T) (hk : Nums w b n' ks) (hb : n ≤ 1000000) (hb' : n' ≤ 1000000) :
    Calls Try.prog 39 #[.slice a n c, .slice b n' c'] w fun e w' => e = .returned (.int .i64 (hits ks T)) ∧ Chg no w w' := by
  have HN : Hid (n = T.length) := hT.len
  by_cases hn' : n' = 0
  · have hks : ks = [] := List.eq_nil_of_length_eq_zero (by rw [← hk.1]; exact hn')
    subst hks hn'
    rw [hits_none, ← HN.out]
    clear hT hk
    go_enter Try.func39, Try.ntmps39
    go_wp2
    go_ret
    exact ⟨rfl, Chg.refl no w⟩
  · have hni : ¬ (n' : Int) = 0 := by omega
    have hnb : ((n' : Int) == 0) = false := by simp; omega
    have HE : Hid (ks.isEmpty = false) := by
      show ks.isEmpty = false
      have := hk.1
      cases ks with
      | nil => simp at this; omega
      | cons _ _ => rfl
    have HT : Hid (Tra J w (.slice a n c) T) := hT
    have HK : Hid (∀ w', Chg no w w' → ∀ z, Calls Try.prog 56 #[.slice b n' c', .int .i64 z] w' fun e w'' => e = .returned (.bool (decide (z ∈ ks))) ∧ w'' = w') := fun w' c z => contains_any (hk.same c) hb' z
    clear hT hk
    go_enter Try.func39, Try.ntmps39
    go_wp2_with fail
    go_loopw [5, 15] (fun v i wr => ∃ k m : Nat, k ≤ n ∧ m ≤ k ∧ v = .int .i64 (m : Int) ∧ i = .int .i64 (k : Int) ∧ m = hits ks (T.take k) ∧ Chg no w wr) (fun _ i _ => n - (intOf i).toNat)
    case atStart => exact ⟨0, 0, by omega, by omega, rfl, rfl, by simp [hits], Chg.refl no _⟩
    case round =>
      obtain ⟨k, m, hk, hm, rfl, rfl, hh, C⟩ := hrel
      by_cases hkn : k < n
      · have hki : (k : Int) < n := by omega
        have hk1 : k < T.length := by rw [← HN.out]; omega
        obtain ⟨x, ab, cb, rfl, hx, hv, e0, e1, e2, l1⟩ := (HT.out.same C).at k hk1
        have hmore := hits_more ks T k hk1
        rw [HE.out, Bool.false_or, ← hh] at hmore
        obtain ⟨⟨k1, a1, v1, z1⟩, hX⟩ : ∃ X, T.getD k dR = X := ⟨_, rfl⟩
        rw [hX] at e0 e1 e2 hmore
        simp only at e0 e1 e2 hmore
        have HM : Hid (hits ks (T.take (k + 1)) = m + if decide (k1 ∈ ks) = true then 1 else 0) := hmore
        clear hX l1 hv hk1 hmore hh
        go_wp2_with fail
        refine (HK.out _ (C.then ((Chg.refl no wr).alloc _)) k1).mono ?_
        rintro e w3 ⟨rfl, rfl⟩
        obtain ⟨s, hs⟩ : ∃ s, decide (k1 ∈ ks) = s := ⟨_, rfl⟩
        rw [hs] at HM ⊢
        clear hs
        rcases s with _ | _
        · go_wp2
          go_roundw
          case rel => exact ⟨k + 1, m, by omega, by omega, rfl, by go_num, by rw [HM.out]; simp, C.then ((Chg.refl no wr).alloc _)⟩
          case measure => simp [intOf]; omega
        · go_wp2
          go_roundw
          case rel => exact ⟨k + 1, m + 1, by omega, by omega, by go_num, by go_num, by rw [HM.out]; simp, C.then ((Chg.refl no wr).alloc _)⟩
          case measure => simp [intOf]; omega
      · obtain rfl : k = n := by omega
        have hki : (k : Int) ≤ k := by omega
        have HH : Hid (hits ks T = m) := by
          rw [HN.out, List.take_of_length_le (Nat.le_refl _)] at hh
          exact hh.symm
        clear hh
        go_wp2
        go_ret
        exact ⟨by rw [HH.out]; rfl, C⟩

set_option maxRecDepth 100000 in
set_option maxHeartbeats 2000000 in
theorem rcount_ops {J : Nat → Prop} {w : World} {a b : Option Addr} {n c n' c' : Nat} {T : List Rec} {ks : List Int} (hT : Tra J w (.slice a n c) T) (hk : Nums w b n' ks) (hb : n ≤ 1000000) (hb' : n' ≤ 1000000) :
    Calls Try.prog 40 #[.slice a n c, .slice b n' c'] w fun e w' => e = .returned (.int .i64 (hits ks T)) ∧ Chg no w w' := by
  have HN : Hid (n = T.length) := hT.len
  have HT : Hid (Tra J w (.slice a n c) T) := hT
  have HK : Hid (∀ w', Chg no w w' → ∀ z, Calls Try.prog 57 #[.slice b n' c', .int .i64 z] w' fun e w'' => e = .returned (.bool (decide (z ∈ ks))) ∧ w'' = w') := fun w' c z => has_num (hk.same c) hb' z
  have HE : Hid (ks.isEmpty = decide (n' = 0)) := by
    show ks.isEmpty = decide (n' = 0)
    have := hk.1
    cases ks with
    | nil => simp at this; simp [this]
    | cons _ _ => simp at this; simp; omega
  clear hT hk
  go_enter Try.func40, Try.ntmps40
  go_wp2_with fail
  go_loopw [5, 6] (fun v i wr => ∃ k m : Nat, k ≤ n ∧ m ≤ k ∧ v = .int .i64 (m : Int) ∧ i = .int .i64 (k : Int) ∧ m = hits ks (T.take k) ∧ Chg no w wr) (fun _ i _ => n - (intOf i).toNat)
  case atStart => exact ⟨0, 0, by omega, by omega, rfl, rfl, by simp [hits], Chg.refl no _⟩
  case round =>
    obtain ⟨k, m, hk, hm, rfl, rfl, hh, C⟩ := hrel
    by_cases hkn : k < n
    · have hki : (k : Int) < n := by omega
      have hk1 : k < T.length := by rw [← HN.out]; omega
      obtain ⟨x, ab, cb, rfl, hx, hv, e0, e1, e2, l1⟩ := (HT.out.same C).at k hk1
      have hmore := hits_more ks T k hk1
      rw [HE.out, ← hh] at hmore
      obtain ⟨⟨k1, a1, v1, z1⟩, hX⟩ : ∃ X, T.getD k dR = X := ⟨_, rfl⟩
      rw [hX] at e0 e1 e2 hmore
      simp only at e0 e1 e2 hmore
      by_cases hn' : n' = 0
      · have HM : Hid (hits ks (T.take (k + 1)) = m + 1) := by
          show hits ks (T.take (k + 1)) = m + 1
          rw [hmore, hn']; simp
        subst hn'
        clear hX l1 hv hk1 hmore hh
        go_wp2
        go_roundw
        case rel => exact ⟨k + 1, m + 1, by omega, by omega, by go_num, by go_num, by rw [HM.out], C⟩
        case measure => simp [intOf]; omega
      · have hni : ¬ (n' : Int) = 0 := by omega
        have HM : Hid (hits ks (T.take (k + 1)) = m + if decide (k1 ∈ ks) = true then 1 else 0) := by
          show hits ks (T.take (k + 1)) = m + if decide (k1 ∈ ks) = true then 1 else 0
          rw [hmore]; simp [hn']
        clear hX l1 hv hk1 hmore hh
        go_wp2_with fail
        refine (HK.out _ C k1).mono ?_
        rintro e w3 ⟨rfl, rfl⟩
        obtain ⟨s, hs⟩ : ∃ s, decide (k1 ∈ ks) = s := ⟨_, rfl⟩
        rw [hs] at HM ⊢
        clear hs
        rcases s with _ | _
        · go_wp2
          go_roundw
          case rel => exact ⟨k + 1, m, by omega, by omega, rfl, by go_num, by rw [HM.out]; simp, C⟩
          case measure => simp [intOf]; omega
        · go_wp2
          go_roundw
          case rel => exact ⟨k + 1, m + 1, by omega, by omega, by go_num, by go_num, by rw [HM.out]; simp, C⟩
          case measure => simp [intOf]; omega
    · obtain rfl : k = n := by omega
      have hki : (k : Int) ≤ k := by omega
      have HH : Hid (hits ks T = m) := by
        rw [HN.out, List.take_of_length_le (Nat.le_refl _)] at hh
        exact hh.symm
      clear hh
      go_wp2
      go_ret
      exact ⟨by rw [HH.out]; rfl, C⟩

end Go.Proofs.Yteehphmedmplkaa.st
