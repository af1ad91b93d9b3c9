/- Records of operations as they lie in memory; contracts of the copy of one, and of comparisons. -/
import Derived.Test.YteehphmedmplkaaCopy
namespace Go.Proofs.Yteehphmedmplkaa.st
open Go.ChangeShapes Go.WideShapes Go.ChangeAt Go.RowKit Go.Proofs.Yteehphmedmplkaa.hp Go.Proofs.Yteehphmedmplkaa.md
set_option linter.unusedVariables false

/-- An operation that is recorded: kind, address, the slice of its bytes, its bytes. -/
structure Rec where
  kind : Int
  addr : Int
  v : Value
  zs : List Int

def dR : Rec := ⟨0, 0, .slice none 0 0, []⟩

/-- All that Same looks at. -/
def Rec.key (x : Rec) : Int × Int × List UInt8 := (x.kind, x.addr, (strOfNums x.zs).toList)

/-- What the records look like in memory. -/
def recs : List Rec → List Value
  | [] => []
  | x :: T => .int .i64 x.kind :: .int .i64 x.addr :: x.v :: recs T

theorem recs_length (T : List Rec) : (recs T).length = T.length * 3 := by
  induction T with
  | nil => rfl
  | cons x T ih => simp [recs, ih]; omega

theorem recs_append (T : List Rec) (x : Rec) : recs (T ++ [x]) = recs T ++ [.int .i64 x.kind, .int .i64 x.addr, x.v] := by
  induction T with
  | nil => rfl
  | cons y T ih => simp [recs, ih]

theorem recs_get (T : List Rec) (i : Nat) (h : i < T.length) : (recs T)[i * 3]? = some (.int .i64 (T.getD i dR).kind) ∧ (recs T)[i * 3 + 1]? = some (.int .i64 (T.getD i dR).addr) ∧ (recs T)[i * 3 + 2]? = some (T.getD i dR).v := by
  induction T generalizing i with
  | nil => simp at h
  | cons y T ih =>
    match i, h with
    | 0, _ => exact ⟨rfl, rfl, rfl⟩
    | i + 1, h =>
      obtain ⟨h1, h2, h3⟩ := ih i (by simpa using h)
      rw [show (i + 1) * 3 = i * 3 + 1 + 1 + 1 by omega, show i * 3 + 1 + 1 + 1 + 1 = (i * 3 + 1) + 1 + 1 + 1 by omega, show i * 3 + 1 + 1 + 1 + 2 = (i * 3 + 2) + 1 + 1 + 1 by omega]
      simp only [recs, List.getElem?_cons_succ, List.getD_cons_succ]
      exact ⟨h1, h2, h3⟩

theorem getD_mem {T : List Rec} {i : Nat} (h : i < T.length) : T.getD i dR ∈ T := by
  rw [List.getD_eq_getElem?_getD, List.getElem?_eq_getElem h]
  exact List.getElem_mem _

/-- The slice v shows the records T; their memory is of J. -/
def Tra (J : Nat → Prop) (w : World) (v : Value) (T : List Rec) : Prop :=
  ∃ a c, v = .slice a T.length c ∧ T.length ≤ c ∧ ∀ i, i < T.length → ∃ x, a = some x ∧ J x.block ∧ w.cell? (x.add (i * 3)) = some (.int .i64 (T.getD i dR).kind) ∧ w.cell? (x.add (i * 3 + 1)) = some (.int .i64 (T.getD i dR).addr) ∧
    w.cell? (x.add (i * 3 + 2)) = some (T.getD i dR).v ∧ Lies J w (T.getD i dR).v ((T.getD i dR).zs.map (Value.int .u8))

theorem Tra.chg {F J : Nat → Prop} {w w' : World} {v : Value} {T : List Rec} (h : Tra J w v T) (c : Chg F w w') (hn : ∀ k, J k → ¬ F k) : Tra J w' v T := by
  obtain ⟨a, cp, rfl, hc, h⟩ := h
  refine ⟨a, cp, rfl, hc, fun i hi => ?_⟩
  obtain ⟨x, rfl, hx, h0, h1, h2, h3⟩ := h i hi
  exact ⟨x, rfl, hx, c.cell h0 (by rw [add_block]; exact hn _ hx), c.cell h1 (by rw [add_block]; exact hn _ hx), c.cell h2 (by rw [add_block]; exact hn _ hx), h3.chg c hn⟩

theorem Tra.same {J : Nat → Prop} {w w' : World} {v : Value} {T : List Rec} (h : Tra J w v T) (c : Chg no w w') : Tra J w' v T := h.chg c fun _ _ h => h

theorem Tra.mono {J K : Nat → Prop} {w : World} {v : Value} {T : List Rec} (h : Tra J w v T) (hn : ∀ k, J k → K k) : Tra K w v T := by
  obtain ⟨a, cp, rfl, hc, h⟩ := h
  refine ⟨a, cp, rfl, hc, fun i hi => ?_⟩
  obtain ⟨x, rfl, hx, h0, h1, h2, h3⟩ := h i hi
  exact ⟨x, rfl, hn _ hx, h0, h1, h2, h3.mono hn⟩

/-- A record's cells, in the walk's own spelling. -/
theorem Tra.at {J : Nat → Prop} {w : World} {a : Option Addr} {n c : Nat} {T : List Rec} (h : Tra J w (.slice a n c) T) (i : Nat) (hi : i < T.length) :
    ∃ x ab cb, a = some x ∧ J x.block ∧ (T.getD i dR).v = .slice ab (T.getD i dR).zs.length cb ∧ w.cell? (x.add (i * 3)) = some (.int .i64 (T.getD i dR).kind) ∧
      w.cell? ⟨(x.add (i * 3)).block, (x.add (i * 3)).off + 1, none⟩ = some (.int .i64 (T.getD i dR).addr) ∧ w.cell? ⟨(x.add (i * 3)).block, (x.add (i * 3)).off + 2, none⟩ = some (.slice ab (T.getD i dR).zs.length cb) ∧
      Lies J w (.slice ab (T.getD i dR).zs.length cb) ((T.getD i dR).zs.map (Value.int .u8)) := by
  obtain ⟨a', c', hv, hc, h⟩ := h
  cases hv
  obtain ⟨x, rfl, hx, h0, h1, h2, h3⟩ := h i hi
  obtain ⟨ab, cb, hb, _⟩ := h3.slice
  simp only [List.length_map] at hb
  rw [add_field x (i * 3) 0] at h1
  rw [add_field x (i * 3) 1, hb] at h2
  rw [hb] at h3
  exact ⟨x, ab, cb, rfl, hx, hb, h0, h1, h2, h3⟩

theorem Tra.len {J : Nat → Prop} {w : World} {a : Option Addr} {n c : Nat} {T : List Rec} (h : Tra J w (.slice a n c) T) : n = T.length := by
  obtain ⟨a', c', hv, _⟩ := h
  cases hv
  rfl

theorem Tra.of_owns {J : Nat → Prop} {w : World} {base : Nat} {e : TypeId} {v : Value} {T : List Rec} (h : w.ownsRow base e 3 v T.length (recs T)) (hJ : ∀ k, v.ownBlock = some k → J k) (hb : ∀ x ∈ T, Lies J w x.v (x.zs.map (Value.int .u8))) : Tra J w v T := by
  have h' := h
  rcases h.2 with ⟨rfl, hn⟩ | ⟨g, cap, cur, rfl, hb', hg, hc, hm, hs, ht⟩
  · have hT : T = [] := List.eq_nil_of_length_eq_zero hn
    subst hT
    exact ⟨none, 0, rfl, Nat.le_refl _, fun i hi => by simp at hi⟩
  · refine ⟨_, _, rfl, by omega, fun i hi => ⟨_, rfl, hJ g rfl, ?_⟩⟩
    obtain ⟨r1, r2, r3⟩ := recs_get T i hi
    simp only [Addr.add_lit, Nat.zero_add]
    exact ⟨by rw [h'.cellAt (i * 3) (by omega)]; exact r1, by rw [h'.cellAt (i * 3 + 1) (by omega)]; exact r2, by rw [h'.cellAt (i * 3 + 2) (by omega)]; exact r3, hb _ (getD_mem hi)⟩

set_option maxHeartbeats 1000000 in
theorem copyRec_any (k a : Int) (v : Value) (zs : List Int) (J : Nat → Prop) (w : World) (h : Lies J w v (zs.map (Value.int .u8))) (hl : zs.length ≤ 100000) (hJ : ∀ k, J k → k < w.heap.size) :
    Calls Try.prog 53 #[.agg #[.int .i64 k, .int .i64 a, v]] w fun e w' => ∃ v', e = .returned (.agg #[.int .i64 k, .int .i64 a, v']) ∧ w'.ownsRow w.heap.size 5 1 v' zs.length (zs.map (Value.int .u8)) ∧ Chg no w w' := by
  have HL : Hid (Lies J w v (zs.map (Value.int .u8))) := h
  obtain ⟨av, cv, hv, _⟩ := h.slice
  simp only [List.length_map] at hv
  subst hv
  clear h
  go_enter Try.func53, Try.ntmps53
  go_wp2_with fail
  have k0 : Chg no w ((w.alloc (.cells #[.int .i64 k, .int .i64 a, .slice av zs.length cv] 61)).alloc (.cells #[.int .i64 0, .int .i64 0, .slice none 0 0] 61)) := ((Chg.refl no w).alloc _).alloc _
  refine (clone_any (.slice av zs.length cv) zs J _ (HL.out.chg k0 (fun _ _ h => h)) hl (fun k hk => by have := hJ k hk; simp; omega)).mono ?_
  rintro e w1 ⟨v', rfl, o1, k1⟩
  have g0 : w1.heap[w.heap.size]? = some (.cells #[.int .i64 k, .int .i64 a, .slice av zs.length cv] 61 (0, 0)) := k1.heap (by rw [Below.heap_alloc _ _ _ (by simp)]; exact heap_alloc_new _ _) id
  have g1 : w1.heap[w.heap.size + 1]? = some (.cells #[.int .i64 0, .int .i64 0, .slice none 0 0] 61 (0, 0)) := k1.heap (by have := heap_alloc_new (w.alloc (.cells #[.int .i64 k, .int .i64 a, .slice av zs.length cv] 61)) (.cells #[.int .i64 0, .int .i64 0, .slice none 0 0] 61); simpa using this) id
  obtain ⟨a0, b0⟩ := row_cell (xs := [_, _, _]) g0 0 _ rfl
  obtain ⟨a1, b1⟩ := row_cell (xs := [_, _, _]) g0 1 _ rfl
  obtain ⟨a2, b2⟩ := row_cell (xs := [_, _, _]) g0 2 _ rfl
  obtain ⟨d0, e0⟩ := row_cell (xs := [_, _, _]) g1 0 _ rfl
  obtain ⟨d1, e1⟩ := row_cell (xs := [_, _, _]) g1 1 _ rfl
  obtain ⟨d2, e2⟩ := row_cell (xs := [_, _, _]) g1 2 _ rfl
  obtain ⟨a', c', rfl⟩ := owns_shape o1
  have z1 : ((w.alloc (.cells #[.int .i64 k, .int .i64 a, .slice av zs.length cv] 61)).alloc (.cells #[.int .i64 0, .int .i64 0, .slice none 0 0] 61)).heap.size = w.heap.size + 2 := by simp
  have HO : Hid (w1.ownsRow w.heap.size 5 1 (.slice a' zs.length c') zs.length (zs.map (Value.int .u8)) ∧ ∀ k, (Value.slice a' zs.length c').ownBlock = some k → w.heap.size + 2 ≤ k) := ⟨owns_base o1 (by omega), fun k hk => by have := (o1.lt k hk).1; omega⟩
  have HC : Hid (Chg no w w1) := k0.then k1
  clear k0 k1 o1 g0 g1 z1
  go_wp2
  have hres : Try.f53.results = #[.cell 2 61] := by kernel_rfl
  refine bodyPost_ret (v := .agg #[.int .i64 k, .int .i64 a, .slice a' zs.length c']) ?_ rfl ⟨_, rfl, ?_, ?_⟩
  · simp only [results, hres]
    go_simp
  · have hne : ∀ {p : Addr}, p.block ≤ w.heap.size + 1 → (Value.slice a' zs.length c').ownBlock ≠ some p.block := fun {p} hp e => by have := HO.out.2 _ e; omega
    exact ownsRow_setCell_other (ownsRow_setCell_other (ownsRow_setCell_other (ownsRow_setCell_other HO.out.1 (hne (by simp)) _) (hne (by simp)) _) (hne (by simp)) _) (hne (by simp)) _
  · have k2 := HC.out.setCell ⟨w.heap.size, 2, none⟩ (.slice a' zs.length c') (.inr (by simp))
    have k3 := k2.setCell ⟨w.heap.size + 1, 0, none⟩ (.int .i64 k) (.inr (by simp))
    have k4 := k3.setCell ⟨w.heap.size + 1, 1, none⟩ (.int .i64 a) (.inr (by simp))
    exact k4.setCell ⟨w.heap.size + 1, 2, none⟩ (.slice a' zs.length c') (.inr (by simp))

theorem bytes_any {J K : Nat → Prop} {w : World} {a b : Option Addr} {len cap len' cap' : Nat} {zs ys : List Int} (h : Lies J w (.slice a len cap) (zs.map (Value.int .u8))) (h' : Lies K w (.slice b len' cap') (ys.map (Value.int .u8))) :
    Calls Try.prog 14 #[.slice a len cap, .slice b len' cap'] w fun e w' => e = .returned (.bool ((strOfNums zs).toList == (strOfNums ys).toList)) ∧ w' = w := by
  have e1 := conv_arg h
  have e2 := conv_arg h'
  clear h h'
  go_enter Try.func14, Try.ntmps14
  go_wp2
  go_ret
  exact ⟨rfl, rfl⟩

theorem equal_any {J K : Nat → Prop} {w : World} {a b : Option Addr} {len cap len' cap' : Nat} {zs ys : List Int} (h : Lies J w (.slice a len cap) (zs.map (Value.int .u8))) (h' : Lies K w (.slice b len' cap') (ys.map (Value.int .u8))) :
    Calls Try.prog 54 #[.slice a len cap, .slice b len' cap'] w fun e w' => e = .returned (.bool ((strOfNums zs).toList == (strOfNums ys).toList)) ∧ w' = w := by
  have e1 := conv_arg h
  have e2 := conv_arg h'
  clear h h'
  go_enter Try.func54, Try.ntmps54
  go_wp2
  go_ret
  exact ⟨rfl, rfl⟩

end Go.Proofs.Yteehphmedmplkaa.st
