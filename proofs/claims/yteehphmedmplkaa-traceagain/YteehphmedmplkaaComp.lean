/- Comparisons of records: plain facts, and contracts of Same, SameOp, EqualFunc, Equal. -/
import Derived.Test.YteehphmedmplkaaFirst
import Derived.Test.YteehphmedmplkaaFar
namespace Go.Proofs.Yteehphmedmplkaa.st
open Go.ChangeShapes Go.WideShapes Go.ChangeAt Go.RowKit Go.Proofs.Yteehphmedmplkaa.hp Go.Proofs.Yteehphmedmplkaa.md
set_option linter.unusedVariables false

/-- How many at the fronts are the same. -/
def comm {α : Type} [DecidableEq α] : List α → List α → Nat
  | x :: l, y :: m => if x = y then comm l m + 1 else 0
  | _, _ => 0

section
variable {α : Type} [DecidableEq α]

theorem comm_le (l m : List α) : comm l m ≤ l.length ∧ comm l m ≤ m.length := by
  induction l generalizing m with
  | nil => simp [comm]
  | cons x l ih =>
    cases m with
    | nil => simp [comm]
    | cons y m =>
      simp only [comm]
      split
      · have := ih m; simp; omega
      · simp

theorem comm_symm (l m : List α) : comm l m = comm m l := by
  induction l generalizing m with
  | nil => cases m <;> simp [comm]
  | cons x l ih =>
    cases m with
    | nil => simp [comm]
    | cons y m =>
      simp only [comm]
      by_cases h : x = y
      · rw [if_pos h, if_pos h.symm, ih]
      · rw [if_neg h, if_neg (fun e => h e.symm)]

theorem comm_take (l m : List α) : l.take (comm l m) = m.take (comm l m) := by
  induction l generalizing m with
  | nil => cases m <;> simp [comm]
  | cons x l ih =>
    cases m with
    | nil => simp [comm]
    | cons y m =>
      simp only [comm]
      by_cases h : x = y
      · rw [if_pos h, List.take_succ_cons, List.take_succ_cons, ih, h]
      · rw [if_neg h]; simp

theorem comm_stop (l m : List α) (d : α) (h1 : comm l m < l.length) (h2 : comm l m < m.length) : l.getD (comm l m) d ≠ m.getD (comm l m) d := by
  induction l generalizing m with
  | nil => simp at h1
  | cons x l ih =>
    cases m with
    | nil => simp at h2
    | cons y m =>
      simp only [comm] at h1 h2 ⊢
      by_cases h : x = y
      · rw [if_pos h] at h1 h2 ⊢
        simp only [List.getD_cons_succ]
        exact ih m (by simpa using h1) (by simpa using h2)
      · rw [if_neg h]
        simpa using h

theorem comm_eq (l m : List α) (d : α) (k : Nat) (h1 : k ≤ l.length) (h2 : k ≤ m.length) (h : ∀ i, i < k → l.getD i d = m.getD i d) (he : k = l.length ∨ k = m.length ∨ l.getD k d ≠ m.getD k d) : comm l m = k := by
  induction l generalizing m k with
  | nil =>
    simp at h1
    cases m <;> simp [comm, h1]
  | cons x l ih =>
    cases m with
    | nil => simp at h2; simp [comm, h2]
    | cons y m =>
      simp only [comm]
      cases k with
      | zero =>
        have hne : x ≠ y := by rcases he with he | he | he; simp at he; simp at he; simpa using he
        rw [if_neg hne]
      | succ k =>
        have h0 := h 0 (by omega)
        simp at h0
        rw [if_pos h0, ih m k (by simpa using h1) (by simpa using h2) (fun i hi => by have := h (i + 1) (by omega); simpa using this) (by simpa using he)]

theorem comm_whole (l m : List α) : (comm l m = l.length ∧ comm l m = m.length) ↔ l = m := by
  constructor
  · rintro ⟨h1, h2⟩
    have := comm_take l m
    rwa [List.take_of_length_le (by omega), List.take_of_length_le (by omega)] at this
  · rintro rfl
    have : comm l l = l.length := by
      induction l with
      | nil => rfl
      | cons x l ih => simp [comm, ih]
    exact ⟨this, this⟩

theorem comm_cut (l : List α) (c : Nat) (hc : c ≤ l.length) : comm l (l.take c) = c := by
  induction l generalizing c with
  | nil => simp at hc; simp [comm, hc]
  | cons x l ih =>
    cases c with
    | zero => simp [comm]
    | succ c => simp [comm, ih c (by simpa using hc)]
end

/-- The keys of records. -/
abbrev keys (T : List Rec) : List (Int × Int × List UInt8) := T.map Rec.key

theorem keys_at (T : List Rec) (i : Nat) : (keys T).getD i dR.key = (T.getD i dR).key := by
  simp only [keys, List.getD_eq_getElem?_getD, List.getElem?_map]
  cases T[i]? <;> rfl

def sm (X Y : Rec) : Bool := decide (X.key = Y.key)

theorem keys_of_tell {T U : List Rec} (h : T.map Rec.tell = U.map Rec.tell) : keys T = keys U := by
  have e : ∀ l : List Rec, keys l = (l.map Rec.tell).map (fun x => (x.1, x.2.1, (strOfNums x.2.2).toList)) := by
    intro l
    simp only [keys, List.map_map]
    rfl
  rw [e, e, h]

set_option maxHeartbeats 1000000 in
theorem same_any {J K : Nat → Prop} {w : World} (X Y : Rec) {x y : Option Addr} {cx cy : Nat} (hx : Lies J w (.slice x X.zs.length cx) (X.zs.map (Value.int .u8))) (hy : Lies K w (.slice y Y.zs.length cy) (Y.zs.map (Value.int .u8))) :
    Calls Try.prog 34 #[.agg #[.int .i64 X.kind, .int .i64 X.addr, .slice x X.zs.length cx], .agg #[.int .i64 Y.kind, .int .i64 Y.addr, .slice y Y.zs.length cy]] w fun e w' => e = .returned (.bool (sm X Y)) ∧ Chg no w w' := by
  obtain ⟨k1, a1, v1, z1⟩ := X
  obtain ⟨k2, a2, v2, z2⟩ := Y
  simp only at hx hy ⊢
  have HE : Hid (∀ w', Chg no w w' → Calls Try.prog 54 #[.slice x z1.length cx, .slice y z2.length cy] w' fun e w'' => e = .returned (.bool ((strOfNums z1).toList == (strOfNums z2).toList)) ∧ w'' = w') := fun w' c => equal_any (hx.chg c (fun _ _ h => h)) (hy.chg c (fun _ _ h => h))
  clear hx hy
  by_cases hk : k1 = k2
  · by_cases ha : a1 = a2
    · subst hk ha
      have hs : sm ⟨k1, a1, v1, z1⟩ ⟨k1, a1, v2, z2⟩ = ((strOfNums z1).toList == (strOfNums z2).toList) := by
        unfold sm Rec.key
        simp only [Prod.mk.injEq, true_and]
        rw [Bool.eq_iff_iff]
        simp
      rw [hs]
      go_enter Try.func34, Try.ntmps34
      go_wp2_with fail
      refine (HE.out _ (((Chg.refl no w).alloc _).alloc _)).mono ?_
      rintro e w1 ⟨rfl, rfl⟩
      go_wp2
      go_ret
      exact ⟨ret_bool (by simp), ((Chg.refl no w).alloc _).alloc _⟩
    · have hs : sm ⟨k1, a1, v1, z1⟩ ⟨k2, a2, v2, z2⟩ = false := by simp [sm, Rec.key, ha]
      rw [hs]
      clear hs
      go_enter Try.func34, Try.ntmps34
      go_wp2
      go_ret
      exact ⟨ret_bool (by simp), ((Chg.refl no w).alloc _).alloc _⟩
  · have hs : sm ⟨k1, a1, v1, z1⟩ ⟨k2, a2, v2, z2⟩ = false := by simp [sm, Rec.key, hk]
    rw [hs]
    clear hs
    go_enter Try.func34, Try.ntmps34
    go_wp2
    go_ret
    exact ⟨ret_bool (by simp), ((Chg.refl no w).alloc _).alloc _⟩

set_option maxHeartbeats 1000000 in
theorem sameOp_any {J K : Nat → Prop} {w : World} (X Y : Rec) {x y : Option Addr} {cx cy : Nat} (hx : Lies J w (.slice x X.zs.length cx) (X.zs.map (Value.int .u8))) (hy : Lies K w (.slice y Y.zs.length cy) (Y.zs.map (Value.int .u8))) :
    Calls Try.prog 35 #[.agg #[.int .i64 X.kind, .int .i64 X.addr, .slice x X.zs.length cx], .agg #[.int .i64 Y.kind, .int .i64 Y.addr, .slice y Y.zs.length cy]] w fun e w' => e = .returned (.bool (sm X Y)) ∧ Chg no w w' := by
  obtain ⟨k1, a1, v1, z1⟩ := X
  obtain ⟨k2, a2, v2, z2⟩ := Y
  simp only at hx hy ⊢
  have HE : Hid (∀ w', Chg no w w' → Calls Try.prog 14 #[.slice x z1.length cx, .slice y z2.length cy] w' fun e w'' => e = .returned (.bool ((strOfNums z1).toList == (strOfNums z2).toList)) ∧ w'' = w') := fun w' c => bytes_any (hx.chg c (fun _ _ h => h)) (hy.chg c (fun _ _ h => h))
  clear hx hy
  by_cases hk : k1 = k2
  · by_cases ha : a1 = a2
    · subst hk ha
      have hs : sm ⟨k1, a1, v1, z1⟩ ⟨k1, a1, v2, z2⟩ = ((strOfNums z1).toList == (strOfNums z2).toList) := by
        unfold sm Rec.key
        simp only [Prod.mk.injEq, true_and]
        rw [Bool.eq_iff_iff]
        simp
      rw [hs]
      go_enter Try.func35, Try.ntmps35
      go_wp2_with fail
      refine (HE.out _ (((Chg.refl no w).alloc _).alloc _)).mono ?_
      rintro e w1 ⟨rfl, rfl⟩
      go_wp2
      go_ret
      exact ⟨ret_bool (by simp), ((Chg.refl no w).alloc _).alloc _⟩
    · have hs : sm ⟨k1, a1, v1, z1⟩ ⟨k2, a2, v2, z2⟩ = false := by simp [sm, Rec.key, ha]
      rw [hs]
      clear hs
      go_enter Try.func35, Try.ntmps35
      go_wp2
      go_ret
      exact ⟨ret_bool (by simp), ((Chg.refl no w).alloc _).alloc _⟩
  · have hs : sm ⟨k1, a1, v1, z1⟩ ⟨k2, a2, v2, z2⟩ = false := by simp [sm, Rec.key, hk]
    rw [hs]
    clear hs
    go_enter Try.func35, Try.ntmps35
    go_wp2
    go_ret
    exact ⟨ret_bool (by simp), ((Chg.refl no w).alloc _).alloc _⟩

end Go.Proofs.Yteehphmedmplkaa.st
