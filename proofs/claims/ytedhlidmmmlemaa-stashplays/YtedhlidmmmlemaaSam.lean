/- Contracts of isSize, isID, Length and the document's, Bytes, Equal, sameBlock, EqualFunc, Same, the document's SameBlocks. -/
import Derived.Test.YtedhlidmmmlemaaBlk
namespace Go.Proofs.Ytedhlidmmmlemaa.st
open Go.ChangeShapes Go.WideShapes Go.ChangeAt Go.RowKit Go.Proofs.Ytedhlidmmmlemaa.hp
set_option linter.unusedVariables false


theorem isID_any (w : World) (a : Int) : Calls Try.prog 37 #[.int .i64 a] w fun e w' => e = .returned (.bool (decide (0 ≤ a ∧ a < 64))) ∧ w' = w := by
  have hc : a < 0 ∨ (0 ≤ a ∧ a < 64) ∨ (0 ≤ a ∧ 64 ≤ a) := by omega
  rcases hc with h1 | ⟨h1, h2⟩ | ⟨h1, h2⟩
  all_goals
    go_enter Try.func37, Try.ntmps37
    go_wp2
    go_ret
    exact ⟨ret_bool (by simp <;> omega), rfl⟩

/-! ### Bytes held against each other -/

/-- Bytes as a string's letters. -/
def u8s (l : List Int) : List UInt8 := l.map fun n => UInt8.ofNat n.toNat

theorem loop_toList (b : ByteArray) (n : Nat) : ∀ (i : Nat) (r : List UInt8), b.size - i = n → i ≤ b.size → ByteArray.toList.loop b i r = r.reverse ++ b.data.toList.drop i := by
  induction n with
  | zero =>
    intro i r hn hi
    rw [ByteArray.toList.loop, if_neg (by omega), List.drop_of_length_le (by simp; omega)]
    simp
  | succ n ih =>
    intro i r hn hi
    have h : i < b.size := by omega
    rw [ByteArray.toList.loop, if_pos h, ih (i + 1) _ (by omega) (by omega)]
    have h' : i < b.data.toList.length := by simpa using h
    rw [List.drop_eq_getElem_cons h']
    simp [ByteArray.get!]
    congr 1
    show b.data[i]! = _
    rw [getElem!_pos b.data i (by simpa using h)]

theorem str_toList (l : List Int) : (strOfNums l).toList = u8s l := by
  show ByteArray.toList.loop (strOfNums l) 0 [] = _
  rw [loop_toList _ _ 0 [] rfl (Nat.zero_le _)]
  simp [strOfNums_data, u8s]

theorem u8_eq (a b : Int) (ha : 0 ≤ a ∧ a ≤ 255) (hb : 0 ≤ b ∧ b ≤ 255) : (UInt8.ofNat a.toNat = UInt8.ofNat b.toNat) ↔ a = b := by
  rw [← UInt8.toNat_inj, UInt8.toNat_ofNat', UInt8.toNat_ofNat', Nat.mod_eq_of_lt (by omega), Nat.mod_eq_of_lt (by omega)]
  omega

theorem u8s_inj : ∀ (x y : List Int), Bytes x → Bytes y → (u8s x = u8s y ↔ x = y)
  | [], [], _, _ => by simp
  | [], _ :: _, _, _ => by simp [u8s]
  | _ :: _, [], _, _ => by simp [u8s]
  | a :: x, b :: y, hx, hy => by
    have ih := u8s_inj x y (fun z hz => hx z (by simp [hz])) (fun z hz => hy z (by simp [hz]))
    have := u8_eq a b (hx a (by simp)) (hy b (by simp))
    simp only [u8s, List.map_cons, List.cons.injEq] at ih ⊢
    rw [ih, this]

theorem str_same {x y : List Int} (hx : Bytes x) (hy : Bytes y) : ((strOfNums x).toList == (strOfNums y).toList) = decide (x = y) := by
  rw [str_toList, str_toList, Bool.eq_iff_iff]
  simp only [beq_iff_eq, decide_eq_true_eq]
  exact u8s_inj x y hx hy

theorem bytes_any {J K : Nat → Prop} {w : World} {a b : Option Addr} {len cap len' cap' : Nat} {zs ys : List Int} (h : Lies J w (.slice a len cap) (zs.map (Value.int .u8))) (h' : Lies K w (.slice b len' cap') (ys.map (Value.int .u8))) (hz : Bytes zs) (hy : Bytes ys) :
    Calls Try.prog 15 #[.slice a len cap, .slice b len' cap'] w fun e w' => e = .returned (.bool (decide (zs = ys))) ∧ w' = w := by
  have e1 := conv_arg h
  have e2 := conv_arg h'
  rw [← str_same hz hy]
  clear h h' hz hy
  go_enter Try.func15, Try.ntmps15
  go_wp2
  go_ret
  exact ⟨rfl, rfl⟩

theorem equal_any {J K : Nat → Prop} {w : World} {a b : Option Addr} {len cap len' cap' : Nat} {zs ys : List Int} (h : Lies J w (.slice a len cap) (zs.map (Value.int .u8))) (h' : Lies K w (.slice b len' cap') (ys.map (Value.int .u8))) (hz : Bytes zs) (hy : Bytes ys) :
    Calls Try.prog 44 #[.slice a len cap, .slice b len' cap'] w fun e w' => e = .returned (.bool (decide (zs = ys))) ∧ w' = w := by
  have e1 := conv_arg h
  have e2 := conv_arg h'
  rw [← str_same hz hy]
  clear h h' hz hy
  go_enter Try.func44, Try.ntmps44
  go_wp2
  go_ret
  exact ⟨rfl, rfl⟩

/-- A block by value. -/
abbrev bv (i : Int) (a : Option Addr) (l c : Nat) : Value := .agg #[.int .i64 i, .slice a l c]

theorem sameBlock_any (w : World) (i k : Int) (a b : Option Addr) (l c l' c' : Nat) (zs ys : List Int) (h : Lies (Old w) w (.slice a l c) (zs.map (Value.int .u8))) (h' : Lies (Old w) w (.slice b l' c') (ys.map (Value.int .u8))) (hz : Bytes zs) (hy : Bytes ys) :
    Calls Try.prog 39 #[bv i a l c, bv k b l' c'] w fun e w' => e = .returned (.bool (decide ((i, zs) = (k, ys)))) ∧ Chg no w w' := by
  have K : Chg no w ((w.alloc (.cells #[.int .i64 i, .slice a l c] 36)).alloc (.cells #[.int .i64 k, .slice b l' c'] 36)) := ((Chg.refl no w).alloc _).alloc _
  have HE := equal_any (Lies.later h K) (Lies.later h' K) hz hy
  clear h h'
  by_cases hi : i = k
  · subst hi
    have e : decide ((i, zs) = (i, ys)) = decide (zs = ys) := by simp
    rw [e]
    obtain ⟨B, hB⟩ : ∃ B, decide (zs = ys) = B := ⟨_, rfl⟩
    rw [hB] at HE ⊢
    have hii : (i == i) = true := by simp
    go_enter Try.func39, Try.ntmps39
    go_wp2_with fail
    refine HE.mono ?_
    rintro e w1 ⟨rfl, rfl⟩
    go_wp2
    go_ret
    exact ⟨rfl, K⟩
  · have e : decide ((i, zs) = (k, ys)) = false := decide_eq_false (by simp [hi])
    rw [e]
    have hik : (i == k) = false := by simpa using hi
    go_enter Try.func39, Try.ntmps39
    go_wp2
    go_ret
    exact ⟨rfl, K⟩

def sameL (a b : List Bk) : Bool := decide (a = b)

theorem take_eq {α : Type} {a b : List α} (d : α) {j : Nat} (ha : j < a.length) (hb : j < b.length) (h : a.take j = b.take j) (e : a.getD j d = b.getD j d) : a.take (j + 1) = b.take (j + 1) := by
  rw [take_snoc a j d ha, take_snoc b j d hb, h, e]

set_option maxHeartbeats 2000000 in
theorem equalFunc_any (w : World) (va vb : Value) (xs ys : List BV) (ha : Bks w va xs) (hb : Bks w vb ys) (hx : xs.length ≤ 100000) (hy : ys.length ≤ 100000) :
    Calls Try.prog 38 #[va, vb, .func (.func 39) #[] #[]] w fun e w' => e = .returned (.bool (sameL (abs xs) (abs ys))) ∧ Chg no w w' := by
  obtain ⟨a, ca, rfl⟩ := ha.slice
  obtain ⟨b, cb, rfl⟩ := hb.slice
  have HA : Hid (Bks w (.slice a xs.length ca) xs) := ha
  have HB : Hid (Bks w (.slice b ys.length cb) ys) := hb
  obtain ⟨R, hR⟩ : ∃ R, sameL (abs xs) (abs ys) = R := ⟨_, rfl⟩
  have HR : Hid (sameL (abs xs) (abs ys) = R) := hR
  rw [hR]
  clear ha hb hR
  by_cases hl : xs.length = ys.length
  · obtain ⟨n, hn⟩ : ∃ n, xs.length = n := ⟨_, rfl⟩
    have HX : Hid (xs.length = n) := hn
    have HY : Hid (ys.length = n) := by rw [← hl]; exact hn
    rw [← hl, hn] at HB
    rw [hn] at HA hx
    rw [← hl, hn]
    clear hy hl hn
    have hni : (n : Int) ≤ 100000 := by omega
    go_enter Try.func38, Try.ntmps38
    go_wp2_with fail
    go_loopw [17] (fun i wr => ∃ k : Nat, k ≤ n ∧ i = .int .i64 (k : Int) ∧ Chg no w wr ∧ (abs xs).take k = (abs ys).take k) (fun i _ => n - (intOf i).toNat)
    case atStart => exact ⟨0, by omega, rfl, Chg.refl no w, rfl⟩
    case round =>
      obtain ⟨k, hk, rfl, hC, hE⟩ := hrel
      have HE : Hid ((abs xs).take k = (abs ys).take k) := hE
      have HC : Hid (Chg no w wr) := hC
      clear hE
      by_cases hkn : k < n
      · have hki : (k : Int) < n := by omega
        have q1 : k < (abs xs).length := by rw [abs_len, HX.out]; exact hkn
        have q2 : k < (abs ys).length := by rw [abs_len, HY.out]; exact hkn
        obtain ⟨y1, ab, cb1, rfl, e0, e1, _, l1, b1, _, _⟩ := (HA.out.later hC).at k (by rw [HX.out]; exact hkn)
        obtain ⟨y2, bb, cb2, rfl, f0, f1, _, l2, b2, o2, n2⟩ := (HB.out.later hC).at k (by rw [HY.out]; exact hkn)
        have HS : Hid (((abs xs).getD k dBk = (abs ys).getD k dBk → (abs xs).take (k + 1) = (abs ys).take (k + 1)) ∧ ((abs xs).getD k dBk ≠ (abs ys).getD k dBk → R = false)) := by
          refine ⟨fun e => take_eq dBk q1 q2 HE.out e, fun e => ?_⟩
          rw [← HR.out]
          exact decide_eq_false fun e' => e (by rw [e'])
        rw [abs_getD, abs_getD] at HS
        obtain ⟨⟨i1, v1, d1⟩, hx1⟩ : ∃ X, xs.getD k dBV = X := ⟨_, rfl⟩
        obtain ⟨⟨i2, v2, d2⟩, hx2⟩ : ∃ X, ys.getD k dBV = X := ⟨_, rfl⟩
        rw [hx1] at e0 e1 l1 b1 HS
        rw [hx2] at f0 f1 l2 b2 HS
        simp only [BV.bk] at e0 e1 l1 b1 f0 f1 l2 b2 HS
        have K : Chg no wr ((wr.alloc (.cells #[.int .i64 i1, .slice ab d1.length cb1] 36)).alloc (.cells #[.int .i64 i2, .slice bb d2.length cb2] 36)) := ((Chg.refl no wr).alloc _).alloc _
        have HSB := sameBlock_any _ i1 i2 ab bb d1.length cb1 d2.length cb2 d1 d2 (Lies.later l1 K) (Lies.later l2 K) b1 b2
        have HK : Hid _ := K
        clear hx1 hx2 q1 q2 l1 b1 l2 b2 K hC
        by_cases he : (i1, d1) = (i2, d2)
        · rw [decide_eq_true he] at HSB
          have HN : Hid ((abs xs).take (k + 1) = (abs ys).take (k + 1)) := HS.out.1 he
          clear HS he
          go_wp2_with fail
          refine HSB.mono ?_
          rintro e w2 ⟨rfl, k2⟩
          clear HSB
          have HC2 : Hid (Chg no w w2) := (HC.out.then HK.out).then k2
          clear k2 e0 e1 f0 f1
          go_wp2
          go_roundw
          case rel => exact ⟨k + 1, by omega, by go_num, HC2.out, HN.out⟩
          case measure => simp [intOf]; omega
        · rw [decide_eq_false he] at HSB
          have hR : R = false := HS.out.2 he
          subst hR
          clear HS he
          go_wp2_with fail
          refine HSB.mono ?_
          rintro e w2 ⟨rfl, k2⟩
          clear HSB
          have HC2 : Hid (Chg no w w2) := (HC.out.then HK.out).then k2
          clear k2 e0 e1 f0 f1
          go_wp2
          go_ret
          exact ⟨rfl, HC2.out⟩
      · obtain rfl : k = n := by omega
        have hki : (k : Int) ≤ k := by omega
        have hR : R = true := by
          have := HE.out
          rw [List.take_of_length_le (by rw [abs_len, HX.out]; omega), List.take_of_length_le (by rw [abs_len, HY.out]; omega)] at this
          rw [← HR.out]
          exact decide_eq_true this
        subst hR
        go_wp2
        go_ret
        exact ⟨rfl, HC.out⟩
  · have hR : R = false := by
      rw [← HR.out]
      refine decide_eq_false fun e => hl ?_
      have := congrArg List.length e
      rwa [abs_len, abs_len] at this
    subst hR
    obtain ⟨n, hn⟩ : ∃ n, xs.length = n := ⟨_, rfl⟩
    obtain ⟨m, hm⟩ : ∃ m, ys.length = m := ⟨_, rfl⟩
    rw [hn, hm] at hl ⊢
    clear HA HB HR hx hy hn hm
    have h1 : (n == m) = false := by simpa using hl
    have h2 : ((n : Int) == (m : Int)) = false := by simp; omega
    have h3 : ¬ ((n : Int) = (m : Int)) := by omega
    go_enter Try.func38, Try.ntmps38
    go_wp2
    go_ret
    exact ⟨rfl, Chg.refl no w⟩

theorem same_any (w : World) (va vb : Value) (xs ys : List BV) (ha : Bks w va xs) (hb : Bks w vb ys) (hx : xs.length ≤ 100000) (hy : ys.length ≤ 100000) :
    Calls Try.prog 28 #[va, vb] w fun e w' => e = .returned (.bool (sameL (abs xs) (abs ys))) ∧ Chg no w w' := by
  have HE := equalFunc_any w va vb xs ys ha hb hx hy
  obtain ⟨a, ca, rfl⟩ := ha.slice
  obtain ⟨b, cb, rfl⟩ := hb.slice
  obtain ⟨R, hR⟩ : ∃ R, sameL (abs xs) (abs ys) = R := ⟨_, rfl⟩
  rw [hR] at HE ⊢
  clear ha hb hR hx hy
  go_enter Try.func28, Try.ntmps28
  go_wp2_with fail
  refine HE.mono ?_
  rintro e w1 ⟨rfl, k1⟩
  go_wp2
  go_ret
  exact ⟨rfl, k1⟩

end Go.Proofs.Ytedhlidmmmlemaa.st
