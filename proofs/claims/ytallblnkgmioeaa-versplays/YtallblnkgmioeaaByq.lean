/- Bytes held against each other (oubref.Bytes). -/
import Derived.Test.YtallblnkgmioeaaBib
namespace Go.Proofs.Ytallblnkgmioeaa.st
open Go.ChangeShapes Go.WideShapes Go.ChangeAt Go.RowKit Go.Proofs.Ytallblnkgmioeaa.hp Go.Proofs.Ytallblnkgmioeaa.bt
set_option linter.unusedVariables false
set_option linter.unusedSimpArgs false

def Bytes (zs : List Int) : Prop := ∀ x ∈ zs, 0 ≤ x ∧ x ≤ 255

theorem conv_arg {J : Nat → Prop} {w : World} {v : Value} {zs : List Int} (h : Lies J w v (zs.map (Value.int .u8))) :
    (convert 36 9 v).run Try.prog w = .ok (.string (strOfNums zs)) w := by
  rcases h with ⟨rfl, h0⟩ | ⟨x, cap, rfl, hx, hc⟩
  · obtain rfl : zs = [] := by simpa using h0
    rw [run_convert_bytes_nil w 36 5 Try.underlying36 Try.underlying5 0 0 9 Try.underlying9]
    rfl
  · have hl : (loadCells x zs.length).run Try.prog w = .ok (zs.map (Value.int .u8)).toArray w := by
      have := run_loadCells_list (P := Try.prog) w x (zs.map (Value.int .u8)) hc
      simpa using this
    simp only [List.length_map]
    rw [run_convert_bytes_string w 36 9 5 _ zs.length cap Try.underlying36 Try.underlying5 Try.underlying9, run_bytesToString w _ zs.length cap zs hl, foldl_push_bytes]
    simp [strOfNums, ByteArray.empty, ByteArray.emptyWithCapacity]
    rfl

/-- Bytes as a string's letters. -/
def u8s (l : List Int) : List UInt8 := l.map fun n => UInt8.ofNat n.toNat

theorem loop_toList (b : ByteArray) (n : Nat) : ∀ (i : Nat) (r : List UInt8), b.size - i = n → i ≤ b.size → ByteArray.toList.loop b i r = r.reverse ++ b.data.toList.drop i := by
  induction n with
  | zero =>
    intro i r hn hi
    rw [ByteArray.toList.loop, if_neg (by omega), List.drop_of_length_le (by simp; omega)]
    simp
  | succ n ih =>
    intro i r hn hi
    have h : i < b.size := by omega
    rw [ByteArray.toList.loop, if_pos h, ih (i + 1) _ (by omega) (by omega)]
    have h' : i < b.data.toList.length := by simpa using h
    rw [List.drop_eq_getElem_cons h']
    simp [ByteArray.get!]
    congr 1
    show b.data[i]! = _
    rw [getElem!_pos b.data i (by simpa using h)]

theorem str_toList (l : List Int) : (strOfNums l).toList = u8s l := by
  show ByteArray.toList.loop (strOfNums l) 0 [] = _
  rw [loop_toList _ _ 0 [] rfl (Nat.zero_le _)]
  simp [strOfNums_data, u8s]

theorem u8_eq (a b : Int) (ha : 0 ≤ a ∧ a ≤ 255) (hb : 0 ≤ b ∧ b ≤ 255) : (UInt8.ofNat a.toNat = UInt8.ofNat b.toNat) ↔ a = b := by
  rw [← UInt8.toNat_inj, UInt8.toNat_ofNat', UInt8.toNat_ofNat', Nat.mod_eq_of_lt (by omega), Nat.mod_eq_of_lt (by omega)]
  omega

theorem u8s_inj : ∀ (x y : List Int), Bytes x → Bytes y → (u8s x = u8s y ↔ x = y)
  | [], [], _, _ => by simp
  | [], _ :: _, _, _ => by simp [u8s]
  | _ :: _, [], _, _ => by simp [u8s]
  | a :: x, b :: y, hx, hy => by
    have ih := u8s_inj x y (fun z hz => hx z (by simp [hz])) (fun z hz => hy z (by simp [hz]))
    have := u8_eq a b (hx a (by simp)) (hy b (by simp))
    simp only [u8s, List.map_cons, List.cons.injEq] at ih ⊢
    rw [ih, this]

theorem str_same {x y : List Int} (hx : Bytes x) (hy : Bytes y) : ((strOfNums x).toList == (strOfNums y).toList) = decide (x = y) := by
  rw [str_toList, str_toList, Bool.eq_iff_iff]
  simp only [beq_iff_eq, decide_eq_true_eq]
  exact u8s_inj x y hx hy

theorem bytes_any {J K : Nat → Prop} {w : World} {a b : Option Addr} {len cap len' cap' : Nat} {zs ys : List Int} (h : Lies J w (.slice a len cap) (zs.map (Value.int .u8))) (h' : Lies K w (.slice b len' cap') (ys.map (Value.int .u8))) (hz : Bytes zs) (hy : Bytes ys) :
    Calls Try.prog 17 #[.slice a len cap, .slice b len' cap'] w fun e w' => e = .returned (.bool (decide (zs = ys))) ∧ w' = w := by
  have e1 := conv_arg h
  have e2 := conv_arg h'
  rw [← str_same hz hy]
  clear h h' hz hy
  go_enter Try.func17, Try.ntmps17
  go_wp2
  go_ret
  exact ⟨rfl, rfl⟩


end Go.Proofs.Ytallblnkgmioeaa.st
