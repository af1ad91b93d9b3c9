/- The contract of byID: the items, rising by their ids, in new memory. -/
import Derived.Test.YtkaohjlnlgennaaCln
import Derived.Shelf.SlSortCmp.NoneTotal
namespace Go.Proofs.Ytkaohjlnlgennaa.st
open Go.ChangeShapes Go.WideShapes Go.ChangeAt Go.RowKit Go.Proofs.Ytkaohjlnlgennaa.hp Go.Proofs.Ytkaohjlnlgennaa.tm Go.Proofs.Ytkaohjlnlgennaa.ev
set_option linter.unusedVariables false
set_option linter.unusedSimpArgs false

theorem sort_none (w : World) (a : Option Addr) (c : Nat) : Calls Try.prog 48 #[.slice a 0 c, .func (.func 49) #[] #[]] w fun e w' => e = .returned (.tuple #[]) ∧ w' = w := by
  have hcon := AnyF.slices_SortFunc_none Go.Proofs.Ytkaohjlnlgennaa.sl.slSort a c (.func (.func 49) #[] #[]) w
  exact hcon

theorem perm_in {d d' : Array (Int × Int)} (h : Sort.PermIn 0 d.size d d') : d'.size = d.size ∧ d'.toList.Perm d.toList := by
  obtain ⟨h1, _, h3⟩ := h
  refine ⟨h1, ?_⟩
  have e1 : d.extract 0 d.size = d := by simp
  have e2 : d'.extract 0 d.size = d' := by rw [← h1]; simp
  rw [e1, e2] at h3
  exact h3

theorem sorted_in {d : Array (Int × Int)} (h : Sort.SortedIn (ltOf cmpF) 0 d.size d) : (ids d.toList).Pairwise (· ≤ ·) := by
  unfold ids
  rw [List.pairwise_map, List.pairwise_iff_getElem]
  intro i j hi hj hlt
  have := h i j (Nat.zero_le _) hlt (by simpa using hj)
  rw [ltF] at this
  rw [getElem!_pos d i (by simpa using hi), getElem!_pos d j (by simpa using hj)] at this
  simp at this ⊢
  omega

theorem sort_some (w : World) (base g n cap : Nat) (its : List (Int × Int)) (hn : its.length = n) (hl : n ≤ 100000) (ho : w.ownsRow base 35 2 (.slice (some ⟨g, 0, none⟩) n cap) n (its.flatMap f2)) :
    Calls Try.prog 48 #[.slice (some ⟨g, 0, none⟩) n cap, .func (.func 49) #[] #[]] w fun e w' => e = .returned (.tuple #[]) ∧ ∃ ds : List (Int × Int), ds.Perm its ∧ (ids ds).Pairwise (· ≤ ·) ∧ w'.ownsRow base 35 2 (.slice (some ⟨g, 0, none⟩) n cap) n (ds.flatMap f2) ∧ Chg (fun k => k = g) w w' := by
  have eg : ∀ args w, (callFunc 49 args).run Try.prog w = .ok (.enter 49 args) w := enters_of Try.func49 (by kernel_rfl) rfl
  have hH := holds_of ho hn
  have hblk : g < w.heap.size := (ho.lt g rfl).2
  have hcon := AnyQ.slices_SortFunc Go.Proofs.Ytkaohjlnlgennaa.sl.slSort 2 Try.isAgg35 Try.sizeOf35 f2 (fun _ => rfl) (fun x v hv => by simp [f2] at hv; rcases hv with rfl | rfl <;> rfl) cmpF swoF 49 #[] g 0 cap its.toArray w eg (cmpLays g 0 its.toArray.size w) hH hblk (by simp; omega)
  have e : its.toArray.size = n := by simpa using hn
  rw [e] at hcon
  refine Calls.mono (show Calls Try.prog 48 _ _ _ from hcon) ?_
  rintro e' w' ⟨rfl, d', m, os, hp, hs, rfl⟩
  rw [← e] at hp hs
  obtain ⟨h1, h2⟩ := perm_in hp
  have h3 : d'.size = n := by rw [h1, e]
  rw [← h1] at hs
  obtain ⟨r1, r2⟩ := sorted_row (m := m) (os := os) ho hn h3
  refine ⟨rfl, d'.toList, by simpa using h2, sorted_in hs, r1, r2⟩

theorem byID_any {J : Nat → Prop} (v : Value) (its : List (Int × Int)) (w : World) (h : Lie J w v its.length (its.flatMap f2)) (hl : its.length ≤ 100000) :
    Calls Try.prog 27 #[v] w fun e w' => ∃ v' ds, e = .returned v' ∧ ds.Perm its ∧ (ids ds).Pairwise (· ≤ ·) ∧ NewR 35 2 f2 w ds v' w' := by
  have HC := clone_any v its w h hl
  clear h
  go_enter Try.func27, Try.ntmps27
  go_wp2_with fail
  refine HC.mono ?_
  rintro e w1 ⟨v1, rfl, N1⟩
  clear HC
  obtain ⟨a, c, rfl⟩ := N1.shape
  obtain ⟨n, hn⟩ : ∃ n, its.length = n := ⟨_, rfl⟩
  have N1' := N1.1
  rw [hn] at hl N1' ⊢
  by_cases h0 : n = 0
  · subst h0
    obtain rfl : its = [] := List.eq_nil_of_length_eq_zero hn
    have HS := sort_none w1 a c
    go_wp2_with fail
    refine HS.mono ?_
    rintro e w2 ⟨rfl, rfl⟩
    go_wp2
    go_ret
    exact ⟨_, [], rfl, List.Perm.refl _, by simp [ids], N1⟩
  · obtain ⟨g, rfl⟩ : ∃ g, a = some ⟨g, 0, none⟩ := by
      rcases N1'.2 with ⟨_, hz⟩ | ⟨g, cap, cur, hv, _⟩
      · exact (h0 hz).elim
      · cases hv
        exact ⟨g, rfl⟩
    have HS := sort_some w1 w.heap.size g n c its hn hl N1'
    have hg := (N1'.lt g rfl).1
    have HK : Hid (Chg no w w1) := N1.2
    have HEL : Hid (its.length = n) := hn
    clear N1 N1' hn
    go_wp2_with fail
    refine HS.mono ?_
    rintro e w2 ⟨rfl, ds, p1, p2, p3, p4⟩
    have HR : Hid (ds.Perm its ∧ (ids ds).Pairwise (· ≤ ·) ∧ NewR 35 2 f2 w ds (.slice (some ⟨g, 0, none⟩) n c) w2) := by
      refine ⟨p1, p2, ?_, (HK.out.trans p4 fun x hx => .inr (by subst hx; exact hg))⟩
      rw [p1.length_eq, HEL.out]
      exact p3
    clear HS p1 p2 p3 p4
    go_wp2
    go_ret
    exact ⟨_, ds, rfl, HR.out.1, HR.out.2.1, HR.out.2.2⟩

end Go.Proofs.Ytkaohjlnlgennaa.st
