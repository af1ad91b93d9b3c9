/- The contract of the document's Put. -/
import Derived.Test.YtedhlidmmmlemaaRpa
import Derived.Test.YtedhlidmmmlemaaRpb
namespace Go.Proofs.Ytedhlidmmmlemaa.st
open Go.ChangeShapes Go.WideShapes Go.ChangeAt Go.RowKit Go.Proofs.Ytedhlidmmmlemaa.hp
set_option linter.unusedVariables false
set_option linter.unusedSimpArgs false

theorem rput_good {F : Nat → Prop} {p : Nat} {L : List Bk} {m : Nat} {w : World} (h : St 32 37 F p L m w) (id : Int) (a : Option Addr) (c : Nat) (zs : List Int) (hv : Lies (Old w) w (.slice a 37 c) (zs.map (Value.int .u8))) (hb : Bytes zs) (hn : okB (id, zs)) :
    Calls Try.prog 11 #[pt p, bv id a 37 c] w fun e w' => e = .returned (.bool true) ∧ St 32 37 (Wid F w w') p (putL L (id, zs)) (max m (putL L (id, zs)).length) w' ∧ Chg F w w' := by
  obtain ⟨v, xs, D, h1, rfl, h3, h4, h5⟩ := h
  cases hf : hasL (abs xs) id
  · obtain ⟨a0, c0, hs⟩ := h1.shape
    by_cases hc : c0 = posL (abs xs) id
    · exact rput_goodA h1 h3 h4 h5 id a c zs hv hb hn hf (fun a1 c1 e => by rw [hs] at e; injection e with _ _ e3; rw [← e3]; exact hc)
    · exact rput_goodB h1 h3 h4 h5 id a c zs hv hb hn hf (fun a1 c1 e => by rw [hs] at e; injection e with _ _ e3; rw [← e3]; exact hc)
  · exact rput_goodT h1 h3 h4 h5 id a c zs hv hb hn hf

theorem rput_any {F : Nat → Prop} {p : Nat} {L : List Bk} {m : Nat} {w : World} (h : St 32 37 F p L m w) (id : Int) (a : Option Addr) (l c : Nat) (zs : List Int) (hv : Lies (Old w) w (.slice a l c) (zs.map (Value.int .u8))) (hb : Bytes zs) (hl : zs.length = l) :
    Calls Try.prog 11 #[pt p, bv id a l c] w fun e w' => e = .returned (.bool (decide (okB (id, zs)))) ∧ St 32 37 (Wid F w w') p (putA L (id, zs)) (mostA L m (id, zs)) w' ∧ Chg F w w' := by
  by_cases hn : okB (id, zs)
  · obtain rfl : l = 37 := by rw [← hl]; exact hn.2.2
    refine (rput_good h id a c zs hv hb hn).mono ?_
    rintro e w' ⟨rfl, h2, k2⟩
    unfold putA mostA
    rw [decide_eq_true hn, if_pos hn, if_pos hn]
    exact ⟨rfl, h2, k2⟩
  · refine (rput_bad h id a l c zs hv hb hn).mono ?_
    rintro e w' ⟨rfl, k2⟩
    unfold putA mostA
    rw [decide_eq_false hn, if_neg hn, if_neg hn]
    refine ⟨rfl, (h.same k2).wide (fun k hk => .inl hk) (fun k hk => ?_), k2.of_no _⟩
    rcases hk with hk | hk
    · have := h.lt k hk
      have := k2.size
      omega
    · exact hk.2

end Go.Proofs.Ytedhlidmmmlemaa.st
