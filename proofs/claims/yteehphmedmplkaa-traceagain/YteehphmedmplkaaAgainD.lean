/- Two recorders, the second of which does again what the first recorded. -/
import Derived.Test.YteehphmedmplkaaAgainS
namespace Go.Proofs.Yteehphmedmplkaa.pl
open Go.ChangeShapes Go.WideShapes Go.ChangeAt Go.RowKit Go.Proofs.Yteehphmedmplkaa.hp Go.Proofs.Yteehphmedmplkaa.md Go.Proofs.Yteehphmedmplkaa.st
set_option linter.unusedVariables false

/-- The first recorder at r, at most k operations; the second at s, at most k2. -/
structure D1 (w : World) (r p s q n k k2 : Nat) (F G : Nat → Prop) (m m' : Mod) (T Ts : List Rec) (wr : World) : Prop where
  a : R1 w r p n 4 k F m T wr
  b : R1 w s q n 4 k2 G m' Ts wr
  dis : ∀ j, F j → ¬ G j
  fw : ∀ j, F j → w.heap.size ≤ j
  gw : ∀ j, G j → w.heap.size ≤ j
  chg : Chg no w wr

/-- .. nothing is recorded by the second yet. -/
def DD1 (w : World) (r p s q n k : Nat) (wr : World) : Prop := ∃ F G m m' T, D1 w r p s q n k 0 F G m m' T [] wr

section
variable {w X w1 : World} {r p s q n k k2 : Nat} {F G F1 G1 : Nat → Prop} {m m' m1 : Mod} {T Ts T1 : List Rec}

theorem D1.same (h : D1 w r p s q n k k2 F G m m' T Ts X) (c : Chg no X w1) : D1 w r p s q n k k2 F G m m' T Ts w1 := ⟨h.a.same c, h.b.same c, h.dis, h.fw, h.gw, h.chg.then c⟩

/-- The first has gone on. -/
theorem D1.next (h : D1 w r p s q n k k2 F G m m' T Ts X) {k' : Nat} (t : R1 w r p n 4 k' F1 m1 T1 w1) (c : Chg F X w1) (hF : ∀ j, F1 j → F j ∨ X.heap.size ≤ j) : D1 w r p s q n k' k2 F1 G m1 m' T1 Ts w1 := by
  have zc := h.chg.size
  have lG := h.b.rc.lt
  refine ⟨t, h.b.chg c (fun j hj e => h.dis j e hj), ?_, ?_, h.gw, h.chg.trans c (fun j hj => .inr (h.fw j hj))⟩
  · intro j hj e
    rcases hF j hj with e' | e'
    · exact h.dis j e' e
    · have := lG j e; omega
  · intro j hj
    rcases hF j hj with e' | e'
    · exact h.fw j e'
    · omega

/-- The second has gone on. -/
theorem D1.next2 (h : D1 w r p s q n k k2 F G m m' T Ts X) {k' : Nat} (t : R1 w s q n 4 k' G1 m1 T1 w1) (c : Chg G X w1) (hG : ∀ j, G1 j → G j ∨ X.heap.size ≤ j) : D1 w r p s q n k k' F G1 m m1 T T1 w1 := by
  have zc := h.chg.size
  have lF := h.a.rc.lt
  refine ⟨h.a.chg c (fun j hj e => h.dis j hj e), t, ?_, h.fw, ?_, h.chg.trans c (fun j hj => .inr (h.gw j hj))⟩
  · intro j hj e
    rcases hG j e with e' | e'
    · exact h.dis j hj e'
    · have := lF j hj; omega
  · intro j hj
    rcases hG j hj with e' | e'
    · exact h.gw j e'
    · omega

theorem aread (h : D1 w r p s q n k 0 F G m m' T [] X) (hk : k ≤ 1000) (A : Int) : Calls Try.prog 12 #[.pointer (some ⟨r, 0, none⟩), .int .i64 A] X (fun e w1 => ∃ x l c y, e = .returned (.tuple #[.slice x l c, .int .i64 y]) ∧ DD1 w r p s q n (k + 1) w1) := by
  by_cases hr : 0 ≤ A ∧ A < n
  · obtain ⟨a, rfl⟩ := Int.eq_ofNat_of_zero_le hr.1
    refine (h.a.read_in hk a (by omega)).mono ?_
    rintro e w1 ⟨g, zs, rfl, _, _, _, c1, m1, v, t⟩
    exact ⟨_, _, _, _, rfl, _, _, _, _, _, h.next t c1 wid_sub⟩
  · refine (h.a.read_out hk A hr).mono ?_
    rintro e w1 ⟨rfl, c1, m1, t⟩
    exact ⟨_, _, _, _, rfl, _, _, _, _, _, h.next t c1 wid_sub⟩

theorem async' (h : D1 w r p s q n k 0 F G m m' T [] X) (hk : k ≤ 1000) : Calls Try.prog 17 #[.pointer (some ⟨r, 0, none⟩)] X (fun e w1 => ∃ y, e = .returned (.int .i64 y) ∧ DD1 w r p s q n (k + 1) w1) := by
  refine (h.a.sync hk).mono ?_
  rintro e w1 ⟨rfl, c1, m1, v, t⟩
  exact ⟨_, rfl, _, _, _, _, _, h.next t c1 wid_sub⟩

theorem awrite (h : D1 w r p s q n k 0 F G m m' T [] X) (hk : k ≤ 1000) (A : Int) (x : Option Addr) (c : Nat) (zs : List Int) (hv : Lies (Old w) X (.slice x zs.length c) (zs.map (Value.int .u8))) :
    Calls Try.prog 15 #[.pointer (some ⟨r, 0, none⟩), .int .i64 A, .slice x zs.length c] X (fun e w1 => ∃ y, e = .returned (.int .i64 y) ∧ DD1 w r p s q n (k + 1) w1) := by
  have hoF : ∀ j, Old w j → ¬ F j := fun j hj e => absurd hj (Nat.not_lt.2 (h.fw j e))
  have hold : ∀ j, Old w j → j < X.heap.size := fun j hj => Nat.lt_of_lt_of_le hj h.chg.size
  by_cases hr : (0 ≤ A ∧ A < n) ∧ zs.length = 4
  · obtain ⟨a, rfl⟩ := Int.eq_ofNat_of_zero_le hr.1.1
    refine (h.a.write_ok hk a (by omega) x c zs hr.2 hv (fun j hj => ⟨hoF j hj, hold j hj⟩)).mono ?_
    rintro e w1 ⟨rfl, c1, m1, v, t⟩
    exact ⟨_, rfl, _, _, _, _, _, h.next t c1 wid_sub⟩
  · refine (h.a.write_out hk A x _ c (by by_cases h1 : 0 ≤ A ∧ A < n; exact .inr (fun e => hr ⟨h1, e⟩); exact .inl h1)).mono ?_
    rintro e w1 ⟨y, rfl, c1, m1, t⟩
    exact ⟨_, rfl, _, _, _, _, _, h.next t c1 wid_sub⟩
end

theorem Lies.old {J : Nat → Prop} {w : World} {v : Value} {xs : List Value} (h : Lies J w v xs) : Lies (fun j => J j ∧ j < w.heap.size) w v xs := by
  rcases h with h | ⟨x, c, rfl, hJ, hc⟩
  · exact .inl h
  · refine .inr ⟨x, c, rfl, fun e => ⟨hJ e, ?_⟩, hc⟩
    have h0 : 0 < xs.length := List.length_pos_iff.2 e
    exact cell_lt (hc 0 _ (List.getElem?_eq_getElem h0))

theorem Tra.old {J : Nat → Prop} {w : World} {v : Value} {T : List Rec} (h : Tra J w v T) : Tra (fun j => J j ∧ j < w.heap.size) w v T := by
  obtain ⟨a, c, rfl, hc, h⟩ := h
  refine ⟨a, c, rfl, hc, fun i hi => ?_⟩
  obtain ⟨x, rfl, hx, h0, h1, h2, h3⟩ := h i hi
  exact ⟨x, rfl, ⟨hx, cell_lt h0⟩, h0, h1, h2, Lies.old h3⟩

/-- The trace of the first is at hand, t; i of it are done again. -/
structure D2 (w : World) (r p s q n k i : Nat) (F G J : Nat → Prop) (m m' : Mod) (T Ts T' : List Rec) (v : Value) (wr : World) : Prop where
  d : D1 w r p s q n k i F G m m' T Ts wr
  t : Tra J wr v T'
  tt : T'.map Rec.tell = T.map Rec.tell
  ts : Ts.map Rec.tell = (T'.take i).map Rec.tell
  jg : ∀ j, J j → ¬ G j ∧ j < wr.heap.size

/-- .. whatever the second has become. -/
def DD2 (w : World) (r p s q n k i : Nat) (F J : Nat → Prop) (m : Mod) (T T' : List Rec) (v : Value) (wr : World) : Prop := ∃ G m' Ts, D2 w r p s q n k i F G J m m' T Ts T' v wr

section
variable {w X w1 : World} {r p s q n k i : Nat} {F G G1 J : Nat → Prop} {m m' m1 : Mod} {T Ts T1 T' : List Rec} {v : Value}

theorem D2.same (h : D2 w r p s q n k i F G J m m' T Ts T' v X) (c : Chg no X w1) : D2 w r p s q n k i F G J m m' T Ts T' v w1 :=
  ⟨h.d.same c, h.t.same c, h.tt, h.ts, fun j hj => ⟨(h.jg j hj).1, Nat.lt_of_lt_of_le (h.jg j hj).2 c.size⟩⟩

theorem D2.next (h : D2 w r p s q n k i F G J m m' T Ts T' v X) (hi : i < T'.length) (t : R1 w s q n 4 (i + 1) G1 m1 T1 w1) (c : Chg G X w1) (hG : ∀ j, G1 j → G j ∨ X.heap.size ≤ j) (he : T1.map Rec.tell = Ts.map Rec.tell ++ [(T'.getD i dR).tell]) : DD2 w r p s q n k (i + 1) F J m T T' v w1 := by
  refine ⟨G1, m1, T1, h.d.next2 t c hG, h.t.chg c (fun j hj => (h.jg j hj).1), h.tt, ?_, ?_⟩
  · rw [he, h.ts, List.take_add_one, List.map_append, List.getD_eq_getElem?_getD, List.getElem?_eq_getElem hi]
    rfl
  · intro j hj
    refine ⟨fun e => ?_, Nat.lt_of_lt_of_le (h.jg j hj).2 c.size⟩
    rcases hG j e with e' | e'
    · exact (h.jg j hj).1 e'
    · have := (h.jg j hj).2; omega

/-- A block that is none of theirs has turned. -/
theorem D2.aside (h : D2 w r p s q n k i F G J m m' T Ts T' v X) {g : Nat} (c : Chg (fun j => j = g) X w1) (hF : ¬ F g) (hG : ¬ G g) (hJ : ¬ J g) (hw : w.heap.size ≤ g) : D2 w r p s q n k i F G J m m' T Ts T' v w1 :=
  ⟨⟨h.d.a.chg c (fun j hj e => hF (e ▸ hj)), h.d.b.chg c (fun j hj e => hG (e ▸ hj)), h.d.dis, h.d.fw, h.d.gw, h.d.chg.trans c (fun j hj => .inr (by omega))⟩, h.t.chg c (fun j hj e => hJ (e ▸ hj)), h.tt, h.ts, fun j hj => ⟨(h.jg j hj).1, Nat.lt_of_lt_of_le (h.jg j hj).2 c.size⟩⟩

/-- What the record at i is. -/
theorem D2.ok (h : D2 w r p s q n k i F G J m m' T Ts T' v X) (hi : i < T'.length) : okTl n 4 (cur n 4 (Ts.map Rec.tell)) (T'.getD i dR).tell := by
  have hv := h.d.a.ok
  rw [← h.tt] at hv
  have := hv i (T'.getD i dR).tell (by rw [List.getElem?_map, List.getD_eq_getElem?_getD, List.getElem?_eq_getElem hi]; rfl)
  rw [← List.map_take, ← h.ts] at this
  exact this

theorem bread (h : D2 w r p s q n k i F G J m m' T Ts T' v X) (hk : i ≤ 1000) (hi : i < T'.length) (h1 : (T'.getD i dR).kind = 1) :
    Calls Try.prog 12 #[.pointer (some ⟨s, 0, none⟩), .int .i64 (T'.getD i dR).addr] X (fun e w1 => ∃ x l c, e = .returned (.tuple #[.slice x l c, .int .i64 0]) ∧ DD2 w r p s q n k (i + 1) F J m T T' v w1 ∧
      ∃ K, Lies K w1 (.slice x l c) ((T'.getD i dR).zs.map (Value.int .u8))) := by
  have ho := h.ok hi
  rcases ho with ho | ho | ho
  · obtain ⟨a, ha⟩ := Int.eq_ofNat_of_zero_le ho.2.1
    have ha' : (T'.getD i dR).addr = (a : Int) := ha
    have hz : (T'.getD i dR).zs = (cur n 4 (Ts.map Rec.tell)).getD a [] := by have := ho.2.2.2; rw [ha] at this; exact this
    have hlt : a < n := by have := ho.2.2.1; rw [ha] at this; exact Int.ofNat_lt.1 this
    rw [ha']
    refine (h.d.b.read_in hk a hlt).mono ?_
    rintro e w1 ⟨g, zs, rfl, hzs, hl, L, c1, m1, v1, t⟩
    refine ⟨_, _, _, rfl, h.next hi t c1 wid_sub ?_, _, by rw [hz, ← hzs]; exact L⟩
    rw [List.map_append, List.map_singleton]
    congr 2
    simp only [Rec.tell]
    rw [h1, ha', hz, ← hzs]
  · have : (T'.getD i dR).kind = 2 := ho.1
    omega
  · have : (T'.getD i dR).kind = 3 := ho.1
    omega

theorem bwrite (h : D2 w r p s q n k i F G J m m' T Ts T' v X) (hk : i ≤ 1000) (hi : i < T'.length) (h1 : (T'.getD i dR).kind = 2) (x : Option Addr) (c : Nat) (hv : Lies J X (.slice x (T'.getD i dR).zs.length c) ((T'.getD i dR).zs.map (Value.int .u8))) :
    Calls Try.prog 15 #[.pointer (some ⟨s, 0, none⟩), .int .i64 (T'.getD i dR).addr, .slice x (T'.getD i dR).zs.length c] X (fun e w1 => e = .returned (.int .i64 0) ∧ DD2 w r p s q n k (i + 1) F J m T T' v w1) := by
  have ho := h.ok hi
  rcases ho with ho | ho | ho
  · have : (T'.getD i dR).kind = 1 := ho.1
    omega
  · obtain ⟨a, ha⟩ := Int.eq_ofNat_of_zero_le ho.2.1
    have ha' : (T'.getD i dR).addr = (a : Int) := ha
    have hlt : a < n := by have := ho.2.2.1; rw [ha] at this; exact Int.ofNat_lt.1 this
    rw [ha']
    refine (h.d.b.write_ok hk a hlt x c _ ho.2.2.2 hv h.jg).mono ?_
    rintro e w1 ⟨rfl, c1, m1, v1, t⟩
    refine ⟨rfl, h.next hi t c1 wid_sub ?_⟩
    rw [List.map_append, List.map_singleton]
    congr 2
    simp only [Rec.tell]
    rw [h1, ha']
  · have : (T'.getD i dR).kind = 3 := ho.1
    omega

theorem bsync (h : D2 w r p s q n k i F G J m m' T Ts T' v X) (hk : i ≤ 1000) (hi : i < T'.length) (h1 : (T'.getD i dR).kind = 3) :
    Calls Try.prog 17 #[.pointer (some ⟨s, 0, none⟩)] X (fun e w1 => e = .returned (.int .i64 0) ∧ DD2 w r p s q n k (i + 1) F J m T T' v w1) ∧ (T'.getD i dR).addr = 0 ∧ (T'.getD i dR).zs.length = 0 := by
  have ho := h.ok hi
  rcases ho with ho | ho | ho
  · have : (T'.getD i dR).kind = 1 := ho.1
    omega
  · have : (T'.getD i dR).kind = 2 := ho.1
    omega
  · have hz : (T'.getD i dR).zs = [] := ho.2.2
    have ha : (T'.getD i dR).addr = 0 := ho.2.1
    refine ⟨(h.d.b.sync hk).mono ?_, ha, by rw [hz]; rfl⟩
    rintro e w1 ⟨rfl, c1, m1, v1, t⟩
    refine ⟨rfl, h.next hi t c1 wid_sub ?_⟩
    rw [List.map_append, List.map_singleton]
    congr 2
    simp only [Rec.tell]
    rw [h1, ha, hz]

theorem D2.kinds (h : D2 w r p s q n k i F G J m m' T Ts T' v X) (hi : i < T'.length) : (T'.getD i dR).kind = 1 ∨ (T'.getD i dR).kind = 2 ∨ (T'.getD i dR).kind = 3 := by
  rcases h.ok hi with ho | ho | ho
  · exact .inl ho.1
  · exact .inr (.inl ho.1)
  · exact .inr (.inr ho.1)
end

end Go.Proofs.Yteehphmedmplkaa.pl
