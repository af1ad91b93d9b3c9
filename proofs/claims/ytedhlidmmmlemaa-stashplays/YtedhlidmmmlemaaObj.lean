/- A stash in memory. -/
import Derived.Test.YtedhlidmmmlemaaDel
namespace Go.Proofs.Ytedhlidmmmlemaa.st
open Go.ChangeShapes Go.WideShapes Go.ChangeAt Go.RowKit Go.Proofs.Ytedhlidmmmlemaa.hp
set_option linter.unusedVariables false
set_option linter.unusedSimpArgs false

abbrev pt (p : Nat) : Value := .pointer (some ⟨p, 0, none⟩)

/-- Blocks that are new in w'. -/
def Anew (w w' : World) : Nat → Prop := fun k => w.heap.size ≤ k ∧ k < w'.heap.size

/-! ### Rows of blocks as cells -/

theorem setB (xs : List BV) (i : Nat) (x : BV) : ((xs.flatMap fb).set (i * 2) (.int .i64 x.id)).set (i * 2 + 1) x.v = (xs.set i x).flatMap fb := by
  induction xs generalizing i with
  | nil => simp
  | cons y xs ih =>
    cases i with
    | zero => simp [fb]
    | succ i =>
      have e1 : (i + 1) * 2 = i * 2 + 1 + 1 := by omega
      rw [List.flatMap_cons, List.set_cons_succ, List.flatMap_cons, ← ih i, e1]
      simp [fb]

theorem takeB (xs : List BV) (i : Nat) : (xs.flatMap fb).take (i * 2) = (xs.take i).flatMap fb := by
  induction xs generalizing i with
  | nil => simp
  | cons y xs ih =>
    cases i with
    | zero => simp
    | succ i =>
      have e1 : (i + 1) * 2 = i * 2 + 1 + 1 := by omega
      rw [List.flatMap_cons, List.take_succ_cons, List.flatMap_cons, ← ih i, e1]
      simp [fb]

theorem dropB (xs : List BV) (i : Nat) : (xs.flatMap fb).drop (i * 2) = (xs.drop i).flatMap fb := by
  induction xs generalizing i with
  | nil => simp
  | cons y xs ih =>
    cases i with
    | zero => simp
    | succ i =>
      have e1 : (i + 1) * 2 = i * 2 + 1 + 1 := by omega
      rw [List.flatMap_cons, List.drop_succ_cons, ← ih i, e1]
      simp [fb]

theorem insB (xs : List BV) (i : Nat) (x : BV) : insX (xs.flatMap fb) i [.int .i64 x.id, x.v] = (xs.take i ++ x :: xs.drop i).flatMap fb := by
  unfold insX
  rw [takeB, dropB]
  simp [fb]

theorem delB (xs : List BV) (i : Nat) : delX (xs.flatMap fb) i = (xs.take i ++ xs.drop (i + 1)).flatMap fb := by
  unfold delX
  rw [takeB, show i * 2 + 2 = (i + 1) * 2 by omega, dropB]
  simp

theorem abs_ins (xs : List BV) (i : Nat) (x : BV) : abs (xs.take i ++ x :: xs.drop i) = (abs xs).take i ++ x.bk :: (abs xs).drop i := by
  simp [abs, List.map_take, List.map_drop]

theorem abs_del (xs : List BV) (i : Nat) : abs (xs.take i ++ xs.drop (i + 1)) = (abs xs).take i ++ (abs xs).drop (i + 1) := by
  simp [abs, List.map_take, List.map_drop]

theorem abs_set (xs : List BV) (i : Nat) (x : BV) (hi : i < xs.length) : abs (xs.set i x) = (abs xs).take i ++ x.bk :: (abs xs).drop (i + 1) := by
  rw [List.set_eq_take_append_cons_drop, if_pos hi]
  simp [abs, List.map_take, List.map_drop]

/-! ### The object -/

/-- Its box p, its row v, its blocks' data in the blocks of D; all of it in blocks of F. -/
structure Stw (T e : TypeId) (F D : Nat → Prop) (p : Nat) (v : Value) (xs : List BV) (m : Nat) (w : World) : Prop where
  box : w.heap[p]? = some (.cells #[v, .int .i64 (m : Int)] T (0, 0))
  row : w.ownsRow 0 e 2 v xs.length (xs.flatMap fb)
  dat : ∀ x ∈ xs, Lies D w x.v (x.d.map (Value.int .u8)) ∧ Bytes x.d
  fp : F p
  fr : ∀ k, v.ownBlock = some k → F k
  fd : ∀ k, D k → F k
  lt : ∀ k, F k → k < w.heap.size
  sp : ¬ D p
  sr : ∀ k, v.ownBlock = some k → ¬ D k ∧ k ≠ p

def St (T e : TypeId) (F : Nat → Prop) (p : Nat) (L : List Bk) (m : Nat) (w : World) : Prop := ∃ v xs D, Stw T e F D p v xs m w ∧ abs xs = L ∧ okL L ∧ L.length ≤ m ∧ m ≤ 64

section
variable {T e : TypeId} {F D G N : Nat → Prop} {p : Nat} {v : Value} {xs : List BV} {m : Nat} {w w' : World} {L : List Bk}

theorem Stw.chg (h : Stw T e F D p v xs m w) (c : Chg G w w') (hn : ∀ k, F k → ¬ G k) : Stw T e F D p v xs m w' :=
  ⟨c.heap h.box (hn p h.fp), c.owns h.row (fun k hk => hn k (h.fr k hk)), fun x hx => ⟨(h.dat x hx).1.chg c (fun k hk => hn k (h.fd k hk)), (h.dat x hx).2⟩, h.fp, h.fr, h.fd, fun k hk => Nat.lt_of_lt_of_le (h.lt k hk) c.size, h.sp, h.sr⟩

theorem Stw.same (h : Stw T e F D p v xs m w) (c : Chg no w w') : Stw T e F D p v xs m w' := h.chg c (fun _ _ h => h)

theorem Stw.wide (h : Stw T e F D p v xs m w) (hn : ∀ k, F k → G k) (hl : ∀ k, G k → k < w.heap.size) : Stw T e G D p v xs m w :=
  ⟨h.box, h.row, h.dat, hn p h.fp, fun k hk => hn k (h.fr k hk), fun k hk => hn k (h.fd k hk), hl, h.sp, h.sr⟩

theorem Stw.bks (h : Stw T e F D p v xs m w) : Bks w v xs :=
  ⟨Lie.old (Lie.of_owns (J := fun _ => True) h.row (fun _ _ => trivial)), fun x hx => ⟨Lies.old (h.dat x hx).1, (h.dat x hx).2⟩⟩

theorem Stw.cells (h : Stw T e F D p v xs m w) : w.cell? ⟨p, 0, none⟩ = some v ∧ w.cell? ⟨p, 1, none⟩ = some (.int .i64 (m : Int)) ∧ w.frozen? ⟨p, 0, none⟩ = false ∧ w.frozen? ⟨p, 1, none⟩ = false ∧ p < w.heap.size := by
  have := h.box
  refine ⟨?_, ?_, ?_, ?_, lt_of_block this⟩ <;> simp [World.cell?, World.frozen?, this]

theorem Stw.shape (h : Stw T e F D p v xs m w) : ∃ a c, v = .slice a xs.length c := owns_shape h.row

theorem St.chg (h : St T e F p L m w) (c : Chg G w w') (hn : ∀ k, F k → ¬ G k) : St T e F p L m w' := by
  obtain ⟨v, xs, D, h1, h2⟩ := h
  exact ⟨v, xs, D, h1.chg c hn, h2⟩

theorem St.same (h : St T e F p L m w) (c : Chg no w w') : St T e F p L m w' := h.chg c (fun _ _ h => h)

theorem St.wide (h : St T e F p L m w) (hn : ∀ k, F k → G k) (hl : ∀ k, G k → k < w.heap.size) : St T e G p L m w := by
  obtain ⟨v, xs, D, h1, h2⟩ := h
  exact ⟨v, xs, D, h1.wide hn hl, h2⟩

theorem St.lt (h : St T e F p L m w) : ∀ k, F k → k < w.heap.size := by
  obtain ⟨v, xs, D, h1, h2⟩ := h
  exact h1.lt

theorem St.ok (h : St T e F p L m w) : okL L ∧ L.length ≤ m ∧ m ≤ 64 := by
  obtain ⟨v, xs, D, h1, h2, h3⟩ := h
  exact h3

theorem St.bytes (h : St T e F p L m w) : ∀ b ∈ L, Bytes b.2 := by
  obtain ⟨v, xs, D, h1, rfl, h3⟩ := h
  intro b hb
  obtain ⟨x, hx, rfl⟩ := List.mem_map.1 hb
  exact (h1.dat x hx).2

/-- Nothing was written but new memory: all that is new counts as its own. -/
theorem St.grown (h : St T e F p L m w) (c : Chg no w w') : St T e (Wid F w w') p L m w' := by
  have h1 := h.same c
  exact h1.wide (fun k hk => .inl hk) (fun k hk => by rcases hk with hk | hk; exact h1.lt k hk; exact hk.2)

/-- The row turned, its data partly new (in blocks of N), the box told of it. -/
theorem Stw.put {wb w1 w2 : World} {v' : Value} {xs' : List BV} {m' : Nat} (h : Stw T e F D p v xs m wb) (hN : ∀ k, N k → ¬ F k ∧ k < wb.heap.size) (k1 : Chg (fun k => v.ownBlock = some k) wb w1) (o : w1.ownsRow 0 e 2 v' xs'.length (xs'.flatMap fb))
    (pl : ∀ k, v'.ownBlock = some k → v.ownBlock = some k ∨ wb.heap.size ≤ k) (hx : ∀ x ∈ xs', x ∈ xs ∨ (Lies N wb x.v (x.d.map (Value.int .u8)) ∧ Bytes x.d)) (b2 : w2.heap[p]? = some (.cells #[v', .int .i64 (m' : Int)] T (0, 0))) (k2 : Chg (fun k => k = p) w1 w2)
    (hGF : ∀ k, F k → G k) (hGN : ∀ k, N k → G k) (hGn : ∀ k, wb.heap.size ≤ k → k < w1.heap.size → G k) (hGl : ∀ k, G k → k < w2.heap.size) : Stw T e G (fun k => D k ∨ N k) p v' xs' m' w2 := by
  have hv' : ∀ k, v'.ownBlock = some k → k ≠ p := by
    intro k hk e
    subst e
    rcases pl k hk with hk | hk
    · exact (h.sr k hk).2 rfl
    · have := h.lt k h.fp
      omega
  have nD : ∀ k, D k ∨ N k → ¬ v.ownBlock = some k := by
    rintro k (hk | hk) e
    · exact (h.sr k e).1 hk
    · exact (hN k hk).1 (h.fr k e)
  have np : ∀ k, D k ∨ N k → k ≠ p := by
    rintro k (hk | hk) rfl
    · exact h.sp hk
    · exact (hN k hk).1 h.fp
  refine ⟨b2, k2.owns o (fun k hk e => hv' k hk e), fun x hxx => ?_, hGF p h.fp, fun k hk => ?_, fun k hk => ?_, hGl, ?_, fun k hk => ⟨?_, hv' k hk⟩⟩
  · have : Lies (fun k => D k ∨ N k) wb x.v (x.d.map (Value.int .u8)) ∧ Bytes x.d := by
      rcases hx x hxx with hh | hh
      · exact ⟨(h.dat x hh).1.mono (fun k hk => .inl hk), (h.dat x hh).2⟩
      · exact ⟨hh.1.mono (fun k hk => .inr hk), hh.2⟩
    exact ⟨(this.1.chg k1 nD).chg k2 (fun k hk e => np k hk e), this.2⟩
  · rcases pl k hk with hk2 | hk2
    · exact hGF k (h.fr k hk2)
    · exact hGn k hk2 (o.lt k hk).2
  · rcases hk with hk | hk
    · exact hGF k (h.fd k hk)
    · exact hGN k hk
  · intro e
    exact np p e rfl
  · rintro e
    rcases pl k hk with hk2 | hk2
    · exact nD k e hk2
    · rcases e with e | e
      · have := h.lt k (h.fd k e)
        omega
      · have := (hN k e).2
        omega

end

/-! ### What only reads -/

theorem find_any {F D : Nat → Prop} {p : Nat} {v : Value} {xs : List BV} {m : Nat} {w : World} (h : Stw 64 36 F D p v xs m w) (hs : srt (abs xs)) (hx : xs.length ≤ 100000) (id : Int) :
    Calls Try.prog 33 #[pt p, .int .i64 id] w fun e w' => e = .returned (.tuple #[.int .i64 (posL (abs xs) id : Nat), .bool (hasL (abs xs) id)]) ∧ Chg no w w' := by
  have HB := bsearch_any w v xs id h.bks hs hx
  obtain ⟨c0, _, _, _, hp⟩ := h.cells
  obtain ⟨a, c, rfl⟩ := h.shape
  clear h hs hx
  go_enter Try.func33, Try.ntmps33
  go_wp2_with fail
  refine HB.mono ?_
  rintro e w1 ⟨rfl, k1⟩
  go_wp2
  go_ret2
  exact ⟨rfl, k1⟩

theorem has_any {F : Nat → Prop} {p : Nat} {L : List Bk} {m : Nat} {w : World} (h : St 64 36 F p L m w) (id : Int) : Calls Try.prog 18 #[pt p, .int .i64 id] w fun e w' => e = .returned (.bool (hasL L id)) ∧ Chg no w w' := by
  obtain ⟨v, xs, D, h1, rfl, h3, h4, h5⟩ := h
  have HF := find_any h1 h3.1 (by rw [abs_len] at h4; omega) id
  clear h1 h3 h4 h5
  go_enter Try.func18, Try.ntmps18
  go_wp2_with fail
  refine HF.mono ?_
  rintro e w1 ⟨rfl, k1⟩
  go_wp2
  go_ret
  exact ⟨rfl, k1⟩

theorem len_any {F : Nat → Prop} {p : Nat} {L : List Bk} {m : Nat} {w : World} (h : St 64 36 F p L m w) : Calls Try.prog 19 #[pt p] w fun e w' => e = .returned (.int .i64 (L.length : Nat)) ∧ w' = w := by
  obtain ⟨v, xs, D, h1, rfl, _⟩ := h
  obtain ⟨c0, _, _, _, hp⟩ := h1.cells
  obtain ⟨a, c, rfl⟩ := h1.shape
  rw [abs_len]
  clear h1
  go_enter Try.func19, Try.ntmps19
  go_wp2
  go_ret
  exact ⟨rfl, rfl⟩

theorem most_any {F : Nat → Prop} {p : Nat} {L : List Bk} {m : Nat} {w : World} (h : St 64 36 F p L m w) : Calls Try.prog 20 #[pt p] w fun e w' => e = .returned (.int .i64 (m : Nat)) ∧ w' = w := by
  obtain ⟨v, xs, D, h1, rfl, _⟩ := h
  obtain ⟨_, c1, _, _, hp⟩ := h1.cells
  clear h1
  go_enter Try.func20, Try.ntmps20
  go_wp2
  go_ret
  exact ⟨rfl, rfl⟩

set_option maxRecDepth 100000 in
theorem get_any {F : Nat → Prop} {p : Nat} {L : List Bk} {m : Nat} {w : World} (h : St 64 36 F p L m w) (id : Int) :
    Calls Try.prog 17 #[pt p, .int .i64 id] w fun e w' => ∃ a c, e = .returned (.tuple #[.slice a (getL L id).2.length c, .bool (hasL L id)]) ∧ Lies (Anew w w') w' (.slice a (getL L id).2.length c) ((getL L id).2.map (Value.int .u8)) ∧ Chg no w w' := by
  obtain ⟨v, xs, D, h1, rfl, h3, h4, h5⟩ := h
  have hx : xs.length ≤ 64 := by rw [abs_len] at h4; omega
  have HF := find_any h1 h3.1 (by omega) id
  cases hh : hasL (abs xs) id
  · have e : getL (abs xs) id = dBk := by unfold getL; rw [hh]; rfl
    rw [e]
    rw [hh] at HF
    obtain ⟨P, hP⟩ : ∃ P, posL (abs xs) id = P := ⟨_, rfl⟩
    rw [hP] at HF
    clear h1 h3 h4 h5 hx e hP hh
    go_enter Try.func17, Try.ntmps17
    go_wp2_with fail
    refine HF.mono ?_
    rintro e w1 ⟨rfl, k1⟩
    go_wp2
    go_ret2
    exact ⟨none, 0, rfl, .inl ⟨rfl, rfl⟩, k1⟩
  · have e : getL (abs xs) id = (abs xs).getD (posL (abs xs) id) dBk := by unfold getL; rw [hh]; rfl
    have hlt := (has_at hh).1
    rw [abs_len] at hlt
    rw [e, abs_getD]
    rw [hh] at HF
    obtain ⟨P, hP⟩ : ∃ P, posL (abs xs) id = P := ⟨_, rfl⟩
    rw [hP] at HF hlt ⊢
    have hok : ((xs.getD P dBV).bk).2.length = 37 := by
      rw [← abs_getD]
      exact (h3.2 _ (getD_mem (by rw [abs_len]; exact hlt))).2.2
    obtain ⟨c0, _, _, _, hp⟩ := h1.cells
    have H1 : Hid (Stw 64 36 F D p v xs m w) := h1
    obtain ⟨a0, c0', hv⟩ := h1.shape
    subst hv
    obtain ⟨n, hn⟩ : ∃ n, xs.length = n := ⟨_, rfl⟩
    have HL : Hid (xs.length = n) := hn
    rw [hn] at c0 hlt
    have hPi : (P : Int) < n := by omega
    obtain ⟨⟨i1, v1, zs⟩, hx1⟩ : ∃ X, xs.getD P dBV = X := ⟨_, rfl⟩
    have HX : Hid (xs.getD P dBV = ⟨i1, v1, zs⟩) := hx1
    rw [hx1] at hok ⊢
    simp only [BV.bk] at hok ⊢
    rw [hok]
    clear h1 h3 h4 h5 hx e hP hh hn hx1
    go_enter Try.func17, Try.ntmps17
    go_wp2_with fail
    refine HF.mono ?_
    rintro e w1 ⟨rfl, k1⟩
    have H2 := H1.out.same k1
    obtain ⟨y, ab, cb, e1, e2, e3, hv, hL, hb, hlt2, _⟩ := (H2.bks).at P (by rw [HL.out]; exact hlt)
    subst e1
    have d0 := H2.cells.1
    have d1 := H2.cells.2.2.2.2
    rw [HL.out] at d0
    rw [HX.out] at e2 e3 hL
    simp only at e2 e3 hL
    rw [hok] at e3 hL
    have HC := clone_any (.slice ab 37 cb) zs _ w1 hL (by omega)
    rw [hok] at HC
    have HK : Hid (Chg no w w1) := k1
    clear H2 hv hL hb HF H1 c0 k1 e2 HX hok
    go_wp2_with fail
    refine HC.mono ?_
    rintro e w2 ⟨v2, rfl, o2, k2⟩
    obtain ⟨a2, c2, rfl⟩ := owns_shape o2
    have HR : Hid (Lies (Anew w w2) w2 (.slice a2 37 c2) (zs.map (Value.int .u8)) ∧ Chg no w w2) := by
      refine ⟨Lies.of_owns o2 (fun k hk => ?_), HK.out.then k2⟩
      have := o2.lt k hk
      have := HK.out.size
      exact ⟨by omega, by omega⟩
    clear o2 k2 HC
    go_wp2
    go_ret2
    exact ⟨a2, c2, rfl, HR.out.1, HR.out.2⟩

end Go.Proofs.Ytedhlidmmmlemaa.st
