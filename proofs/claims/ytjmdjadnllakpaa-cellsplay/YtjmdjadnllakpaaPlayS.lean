/- The store beside the document's store: one is like the other, whatever is done to both. -/
import Derived.Test.YtjmdjadnllakpaaRefW
namespace Go.Proofs.Ytjmdjadnllakpaa.pl
open Go.ChangeShapes Go.WideShapes Go.ChangeAt Go.RowKit Go.Proofs.Ytjmdjadnllakpaa.hp Go.Proofs.Ytjmdjadnllakpaa.md Go.Proofs.Ytjmdjadnllakpaa.st
set_option linter.unusedVariables false

/-- Both hold the same bytes, in flight too. -/
structure Like (m m' : Mod) : Prop where
  sz : m.sz = m'.sz
  V : m.V.map (·.2) = m'.V.map (·.2)
  W : m.W.map (fun x => (x.1, x.2.2)) = m'.W.map (fun x => (x.1, x.2.2))
  up : m.up = m'.up
  ops : m.ops = m'.ops
  arm : m.arm = m'.arm
  kp : m.kp = m'.kp

theorem getD_map {α β : Type} (g : α → β) (l : List α) (i : Nat) (d : α) : g (l.getD i d) = (l.map g).getD i (g d) := by
  simp only [List.getD_eq_getElem?_getD, List.getElem?_map]
  cases l[i]? <;> rfl

theorem redo_like {V V' : List Cell} {W W' : List Wr} (hV : V.map (·.2) = V'.map (·.2)) (hW : W.map (fun x => (x.1, x.2.2)) = W'.map (fun x => (x.1, x.2.2))) (f : Nat → Bool) (i : Nat) :
    (redo V W f i).map (·.2) = (redo V' W' f i).map (·.2) := by
  induction i with
  | zero => exact hV
  | succ i ih =>
    have h1 : ((W.getD i dW).1, (W.getD i dW).2.2) = ((W'.getD i dW).1, (W'.getD i dW).2.2) := by
      have e1 := getD_map (fun x : Wr => (x.1, x.2.2)) W i dW
      have e2 := getD_map (fun x : Wr => (x.1, x.2.2)) W' i dW
      rw [hW] at e1
      exact e1.trans e2.symm
    simp only [Prod.mk.injEq] at h1
    simp only [redo]
    split
    · rw [List.map_set, List.map_set, ih, h1.1, h1.2]
    · exact ih

section
variable {m m' : Mod}

theorem Like.len (h : Like m m') : m.W.length = m'.W.length := by
  have := congrArg List.length h.W
  simpa using this

theorem Like.vlen (h : Like m m') : m.V.length = m'.V.length := by
  have := congrArg List.length h.V
  simpa using this

theorem Like.redo (h : Like m m') (f : Nat → Bool) : (redo m.V m.W f m.W.length).map (·.2) = (redo m'.V m'.W f m'.W.length).map (·.2) := by
  rw [h.len]
  exact redo_like h.V h.W f _

theorem Like.now (h : Like m m') (i : Nat) : (m.now.getD i dC).2 = (m'.now.getD i dC).2 := by
  rw [getD_map (fun c : Cell => c.2), getD_map (fun c : Cell => c.2)]
  unfold Mod.now
  rw [h.redo all]

theorem Like.fails (h : Like m m') : m.fails = m'.fails := by unfold Mod.fails; rw [h.up, h.arm]

theorem Like.crash (h : Like m m') (k : List Bool) : Like (m.crash k) (m'.crash k) := ⟨h.sz, h.redo _, rfl, rfl, h.ops, rfl, rfl⟩

theorem Like.sync (h : Like m m') : Like m.sync m'.sync := ⟨h.sz, h.redo _, rfl, h.up, h.ops, h.arm, h.kp⟩

theorem Like.put (h : Like m m') (a : Nat) (v v' : Value) (zs : List Int) : Like (Mod.put m (a, v, zs)) (Mod.put m' (a, v', zs)) := ⟨h.sz, h.V, by simp [Mod.put, h.W], h.up, h.ops, h.arm, h.kp⟩

theorem Like.set (h : Like m m') (a : Nat) (k : List Bool) : Like { m with arm := a, kp := k } { m' with arm := a, kp := k } := ⟨h.sz, h.V, h.W, h.up, h.ops, rfl, rfl⟩

theorem Like.boot (h : Like m m') : Like { m with up := true } { m' with up := true } := ⟨h.sz, h.V, h.W, rfl, h.ops, h.arm, h.kp⟩

theorem Like.began (h : Like m m') : Like m.began m'.began := by
  obtain ⟨sz, V, W, up, ops, arm, kp⟩ := m
  obtain ⟨sz', V', W', up', ops', arm', kp'⟩ := m'
  obtain ⟨h1, h2, h3, h4, h5, h6, h7⟩ := h
  simp only at h1 h2 h3 h4 h5 h6 h7
  subst h1 h4 h5 h6 h7
  unfold Mod.began
  simp only
  split
  · split
    · exact Like.crash (m := ⟨sz, V, W, up, ops + 1, arm, kp⟩) (m' := ⟨sz, V', W', up, ops + 1, arm, kp⟩) ⟨rfl, h2, h3, rfl, rfl, rfl, rfl⟩ _
    · exact ⟨rfl, h2, h3, rfl, rfl, rfl, rfl⟩
  · exact ⟨rfl, h2, h3, rfl, rfl, rfl, rfl⟩
end

/-- What the law carries: the store at p, the document's at q. -/
structure D (w : World) (p q n sz k : Nat) (F G : Nat → Prop) (m m' : Mod) (wr : World) : Prop where
  st : St wr p F m
  rt : Rt wr q G m'
  like : Like m m'
  dis : ∀ j, F j → ¬ G j
  fw : ∀ j, F j → w.heap.size ≤ j
  gw : ∀ j, G j → w.heap.size ≤ j
  V : m.V.length = n
  sz : m.sz = sz
  ops : m.ops ≤ k
  kp : m.kp.length ≤ 20000
  chg : Chg no w wr

/-- .. whatever their states. -/
def DD (w : World) (p q n sz k : Nat) (wr : World) : Prop := ∃ F G m m', D w p q n sz k F G m m' wr

section
variable {w wr w1 w2 : World} {p q n sz k : Nat} {F G F1 G2 : Nat → Prop} {m m' m1 m2 : Mod}

theorem D.same (h : D w p q n sz k F G m m' wr) (c : Chg no wr w1) : D w p q n sz k F G m m' w1 :=
  ⟨h.st.same c, h.rt.same c, h.like, h.dis, h.fw, h.gw, h.V, h.sz, h.ops, h.kp, h.chg.then c⟩

theorem DD.same (h : DD w p q n sz k wr) (c : Chg no wr w1) : DD w p q n sz k w1 := by
  obtain ⟨F, G, m, m', h⟩ := h
  exact ⟨F, G, m, m', h.same c⟩

theorem D.more (h : D w p q n sz k F G m m' wr) {k' : Nat} (hk : k ≤ k') : D w p q n sz k' F G m m' wr :=
  ⟨h.st, h.rt, h.like, h.dis, h.fw, h.gw, h.V, h.sz, Nat.le_trans h.ops hk, h.kp, h.chg⟩

/-- Between the two calls: the document's store stands yet. -/
theorem D.mid (h : D w p q n sz k F G m m' wr) (c1 : Chg F wr w1) : Rt w1 q G m' := h.rt.chg c1 (fun j hj e => h.dis j e hj)

/-- Behind both calls. -/
theorem D.both (h : D w p q n sz k F G m m' wr) (s1 : St w1 p F1 m1) (c1 : Chg F wr w1) (hF : ∀ j, F1 j → F j ∨ wr.heap.size ≤ j) (r2 : Rt w2 q G2 m2) (c2 : Chg G w1 w2) (hG : ∀ j, G2 j → G j ∨ w1.heap.size ≤ j) (l : Like m1 m2)
    {k' : Nat} (hV : m1.V.length = m.V.length) (hs : m1.sz = m.sz) (ho : m1.ops ≤ k') (hk : m1.kp.length ≤ 20000) : DD w p q n sz k' w2 := by
  have l1 := s1.lt
  have lF := h.st.lt
  have lG := h.rt.lt
  have z := c1.size
  have zc := h.chg.size
  have hdis : ∀ j, F1 j → ¬ G j := fun j hj e => by rcases hF j hj with e' | e'; exact h.dis j e' e; have := lG j e; omega
  refine ⟨F1, G2, m1, m2, s1.chg c2 (fun j hj e => hdis j hj e), r2, l, ?_, ?_, ?_, hV.trans h.V, hs.trans h.sz, ho, hk, (h.chg.trans c1 (fun j hj => .inr (h.fw j hj))).trans c2 (fun j hj => .inr (h.gw j hj))⟩
  · intro j hj e
    rcases hG j e with e' | e'
    · exact hdis j hj e'
    · have := l1 j hj
      omega
  · intro j hj
    rcases hF j hj with e | e
    · exact h.fw j e
    · omega
  · intro j hj
    rcases hG j hj with e | e
    · exact h.gw j e
    · omega
end

theorem wid_sub {F : Nat → Prop} {w w' : World} : ∀ j, Wid F w w' j → F j ∨ w.heap.size ≤ j := fun j hj => by rcases hj with hj | hj; exact .inl hj; exact .inr hj.1

theorem began_kp (m : Mod) (h : m.kp.length ≤ 20000) : m.began.kp.length ≤ 20000 := by
  unfold Mod.began
  split
  · split
    · simp [Mod.crash]
    · exact h
  · exact h

/-- The cells of block g stay. -/
def Stays (g : Nat) (X w' : World) : Prop := ∀ (j : Nat) (v : Value), X.cell? ⟨g, j, none⟩ = some v → w'.cell? ⟨g, j, none⟩ = some v

section
variable {w X : World} {p q n sz k : Nat} {F G : Nat → Prop} {m m' : Mod}

theorem D.stays (h : D w p q n sz k F G m m' X) {w1 : World} {g : Nat} (hg : ¬ F g) (c : Chg F X w1) : Stays g X w1 := fun j v hv => c.cell hv hg

theorem dreboot (h : D w p q n sz k F G m m' X) : ∃ (r : Bool) (P1 : World → Prop), Calls Try.prog 23 #[.pointer (some ⟨p, 0, none⟩)] X (fun e w1 => e = .returned (.bool r) ∧ P1 w1) ∧
    ∀ w1, P1 w1 → Calls Try.prog 24 #[.pointer (some ⟨q, 0, none⟩)] w1 (fun e w2 => e = .returned (.bool r) ∧ DD w p q n sz k w2) := by
  refine ⟨!m.up, fun w1 => St w1 p F { m with up := true } ∧ Chg F X w1, reboot_any h.st, ?_⟩
  rintro w1 ⟨s1, c1⟩
  refine (rreboot_any (h.mid c1)).mono ?_
  rintro e w2 ⟨rfl, r2, c2⟩
  refine ⟨by rw [h.like.up], h.both s1 c1 (fun j hj => .inl hj) r2 c2 (fun j hj => .inl hj) h.like.boot rfl rfl h.ops h.kp⟩

theorem dsync (h : D w p q n sz k F G m m' X) (hk : k ≤ 1000) : ∃ (r : Int) (P1 : World → Prop), Calls Try.prog 17 #[.pointer (some ⟨p, 0, none⟩)] X (fun e w1 => e = .returned (.int .i64 r) ∧ P1 w1) ∧
    ∀ w1, P1 w1 → Calls Try.prog 18 #[.pointer (some ⟨q, 0, none⟩)] w1 (fun e w2 => e = .returned (.int .i64 r) ∧ DD w p q n sz (k + 1) w2) := by
  have ho : m.ops ≤ 100000000 := by have := h.ops; omega
  have hkp : m.kp.length ≤ 100000000000 := by have := h.kp; omega
  have ho' : m'.ops ≤ 100000000 := by rw [← h.like.ops]; exact ho
  have hkp' : m'.kp.length ≤ 100000000000 := by rw [← h.like.kp]; exact hkp
  have hob := began_ops m
  have hok := h.ops
  by_cases hf : m.fails = true
  · refine ⟨6, fun w1 => St w1 p F m.began ∧ Chg F X w1, sync_fail h.st ho hkp hf, ?_⟩
    rintro w1 ⟨s1, c1⟩
    refine (rsync_fail (h.mid c1) ho' hkp' (by rw [← h.like.fails]; exact hf)).mono ?_
    rintro e w2 ⟨rfl, r2, c2⟩
    exact ⟨rfl, h.both s1 c1 (fun j hj => .inl hj) r2 c2 (fun j hj => .inl hj) h.like.began (began_sz m).2 (began_sz m).1 (by omega) (began_kp m h.kp)⟩
  · have hf' : m.fails = false := by simpa using hf
    refine ⟨0, fun w1 => St w1 p F m.began.sync ∧ Chg F X w1, sync_ok h.st ho hkp hf', ?_⟩
    rintro w1 ⟨s1, c1⟩
    refine (rsync_ok (h.mid c1) ho' hkp' (by rw [← h.like.fails]; exact hf')).mono ?_
    rintro e w2 ⟨rfl, r2, c2⟩
    exact ⟨rfl, h.both s1 c1 (fun j hj => .inl hj) r2 c2 wid_sub h.like.began.sync (by simp [Mod.sync, Mod.now, redo_length, (began_sz m).2]) (began_sz m).1 (by show m.began.ops ≤ k + 1; omega) (began_kp m h.kp)⟩

theorem darm (h : D w p q n sz k F G m m' X) {g : Nat} (hg : ¬ F g) (A : Int) (hA : A ≤ 9223372036854775807) (v : Value) (bs : List Bool) (hv : Lies (Old w) X v (bs.map Value.bool)) (hb : bs.length ≤ 20000) :
    ∃ (r : Bool) (P1 : World → Prop), Calls Try.prog 19 #[.pointer (some ⟨p, 0, none⟩), .int .i64 A, v] X (fun e w1 => e = .returned (.bool r) ∧ P1 w1) ∧
    ∀ w1, P1 w1 → Stays g X w1 ∧ Calls Try.prog 20 #[.pointer (some ⟨q, 0, none⟩), .int .i64 A, v] w1 (fun e w2 => e = .returned (.bool r) ∧ DD w p q n sz k w2) := by
  by_cases ha : A < 1
  · refine ⟨false, fun w1 => w1 = X, arm_bad A ha v, ?_⟩
    rintro w1 rfl
    refine ⟨fun j u hu => hu, (rarm_bad A ha v).mono ?_⟩
    rintro e w2 ⟨rfl, rfl⟩
    exact ⟨rfl, _, _, _, _, h⟩
  · obtain ⟨a, rfl⟩ := Int.eq_ofNat_of_zero_le (show 0 ≤ A by omega)
    have hold : ∀ j, Old w j → j < X.heap.size := fun j hj => Nat.lt_of_lt_of_le hj h.chg.size
    refine ⟨true, fun w1 => St w1 p (Wid F X w1) { m with arm := a, kp := bs } ∧ Chg F X w1, arm_ok h.st a (by omega) (by omega) v bs hv (by omega) hold, ?_⟩
    rintro w1 ⟨s1, c1⟩
    have hv1 := hv.chg c1 (fun j hj e => absurd hj (Nat.not_lt.2 (h.fw j e)))
    refine ⟨h.stays hg c1, (rarm_ok (h.mid c1) a (by omega) (by omega) v bs hv1 (by omega)).mono ?_⟩
    rintro e w2 ⟨rfl, r2, c2⟩
    exact ⟨rfl, h.both s1 c1 wid_sub r2 c2 wid_sub (h.like.set a bs) rfl rfl h.ops hb⟩

theorem dcrash (h : D w p q n sz k F G m m' X) {g : Nat} (hg : ¬ F g) (hk : k ≤ 1000) (x : Option Addr) (c : Nat) (bs : List Bool) (hv : Lies (Old w) X (.slice x bs.length c) (bs.map Value.bool)) (hb : bs.length ≤ 20000) :
    ∃ (r : Bool) (P1 : World → Prop), Calls Try.prog 21 #[.pointer (some ⟨p, 0, none⟩), .slice x bs.length c] X (fun e w1 => e = .returned (.bool r) ∧ P1 w1) ∧
    ∀ w1, P1 w1 → Stays g X w1 ∧ Calls Try.prog 22 #[.pointer (some ⟨q, 0, none⟩), .slice x bs.length c] w1 (fun e w2 => e = .returned (.bool r) ∧ DD w p q n sz k w2) := by
  have hok := h.ops
  by_cases hu : m.up = true
  · refine ⟨true, fun w1 => St w1 p F (m.crash bs) ∧ Chg F X w1, crash_any h.st hu (by omega) _ bs hv (by omega) (fun j hj e => absurd hj (Nat.not_lt.2 (h.fw j e))), ?_⟩
    rintro w1 ⟨s1, c1⟩
    have hv1 := hv.chg c1 (fun j hj e => absurd hj (Nat.not_lt.2 (h.fw j e)))
    refine ⟨h.stays hg c1, (rcrash_any (h.mid c1) (by rw [← h.like.up]; exact hu) (by rw [← h.like.ops]; omega) _ bs hv1 (by omega) (fun j hj e => absurd hj (Nat.not_lt.2 (h.gw j e)))).mono ?_⟩
    rintro e w2 ⟨rfl, r2, c2⟩
    exact ⟨rfl, h.both s1 c1 (fun j hj => .inl hj) r2 c2 (fun j hj => .inl hj) (h.like.crash bs) (by simp [Mod.crash, redo_length]) rfl h.ops (by simp [Mod.crash])⟩
  · have hu' : m.up = false := by simpa using hu
    refine ⟨false, fun w1 => w1 = X, crash_down h.st hu' x _ c, ?_⟩
    rintro w1 rfl
    refine ⟨fun j u hu => hu, (rcrash_down h.rt (by rw [← h.like.up]; exact hu') x _ c).mono ?_⟩
    rintro e w2 ⟨rfl, rfl⟩
    exact ⟨rfl, _, _, _, _, h⟩

theorem dwrite (h : D w p q n sz k F G m m' X) {g : Nat} (hg : ¬ F g) (hk : k ≤ 1000) (A : Int) (x : Option Addr) (c : Nat) (zs : List Int) (hv : Lies (Old w) X (.slice x zs.length c) (zs.map (Value.int .u8))) :
    ∃ (r : Int) (P1 : World → Prop), Calls Try.prog 15 #[.pointer (some ⟨p, 0, none⟩), .int .i64 A, .slice x zs.length c] X (fun e w1 => e = .returned (.int .i64 r) ∧ P1 w1) ∧
    ∀ w1, P1 w1 → Stays g X w1 ∧ Calls Try.prog 16 #[.pointer (some ⟨q, 0, none⟩), .int .i64 A, .slice x zs.length c] w1 (fun e w2 => e = .returned (.int .i64 r) ∧ DD w p q n sz (k + 1) w2) := by
  have ho : m.ops ≤ 100000000 := by have := h.ops; omega
  have hkp : m.kp.length ≤ 100000000000 := by have := h.kp; omega
  have ho' : m'.ops ≤ 100000000 := by rw [← h.like.ops]; exact ho
  have hkp' : m'.kp.length ≤ 100000000000 := by rw [← h.like.kp]; exact hkp
  have hob := began_ops m
  have hok := h.ops
  have hvl := h.like.vlen
  have hsl := h.like.sz
  have hoF : ∀ j, Old w j → ¬ F j := fun j hj e => absurd hj (Nat.not_lt.2 (h.fw j e))
  have hoG : ∀ j, Old w j → ¬ G j := fun j hj e => absurd hj (Nat.not_lt.2 (h.gw j e))
  have hold : ∀ j, Old w j → j < X.heap.size := fun j hj => Nat.lt_of_lt_of_le hj h.chg.size
  by_cases hf : m.fails = true
  · refine ⟨6, fun w1 => St w1 p F m.began ∧ Chg F X w1, write_fail h.st ho hkp hf A x _ c, ?_⟩
    rintro w1 ⟨s1, c1⟩
    refine ⟨h.stays hg c1, (rwrite_fail (h.mid c1) ho' hkp' (by rw [← h.like.fails]; exact hf) A x _ c).mono ?_⟩
    rintro e w2 ⟨rfl, r2, c2⟩
    exact ⟨rfl, h.both s1 c1 (fun j hj => .inl hj) r2 c2 (fun j hj => .inl hj) h.like.began (began_sz m).2 (began_sz m).1 (by omega) (began_kp m h.kp)⟩
  · have hf' : m.fails = false := by simpa using hf
    have hf2 : m'.fails = false := by rw [← h.like.fails]; exact hf'
    by_cases hr : 0 ≤ A ∧ A < m.V.length
    · by_cases hl : zs.length = m.sz
      · obtain ⟨a, rfl⟩ := Int.eq_ofNat_of_zero_le hr.1
        refine ⟨0, fun w1 => ∃ v', St w1 p (Wid F X w1) (Mod.put m.began (a, v', zs)) ∧ Chg F X w1, (write_ok h.st ho hkp hf' a (by omega) _ zs hl hv (fun j hj => ⟨hoF j hj, hold j hj⟩)).mono ?_, ?_⟩
        · rintro e w1 ⟨v', rfl, s1, c1⟩
          exact ⟨rfl, v', s1, c1⟩
        rintro w1 ⟨v1, s1, c1⟩
        refine ⟨h.stays hg c1, (rwrite_ok (h.mid c1) ho' hkp' hf2 a (by omega) _ zs (by omega) (hv.chg c1 hoF) (fun j hj => ⟨hoG j hj, Nat.lt_of_lt_of_le (hold j hj) c1.size⟩)).mono ?_⟩
        rintro e w2 ⟨v2, rfl, r2, c2⟩
        exact ⟨rfl, h.both s1 c1 wid_sub r2 c2 wid_sub (h.like.began.put a v1 v2 zs) (began_sz m).2 (began_sz m).1 (by show m.began.ops ≤ k + 1; omega) (began_kp m h.kp)⟩
      · refine ⟨2, fun w1 => St w1 p F m.began ∧ Chg F X w1, write_form h.st ho hkp hf' A hr x _ c hl, ?_⟩
        rintro w1 ⟨s1, c1⟩
        refine ⟨h.stays hg c1, (rwrite_form (h.mid c1) ho' hkp' hf2 A (by omega) x _ c (by omega)).mono ?_⟩
        rintro e w2 ⟨rfl, r2, c2⟩
        exact ⟨rfl, h.both s1 c1 (fun j hj => .inl hj) r2 c2 (fun j hj => .inl hj) h.like.began (began_sz m).2 (began_sz m).1 (by omega) (began_kp m h.kp)⟩
    · refine ⟨1, fun w1 => St w1 p F m.began ∧ Chg F X w1, write_out h.st ho hkp hf' A hr x _ c, ?_⟩
      rintro w1 ⟨s1, c1⟩
      refine ⟨h.stays hg c1, (rwrite_out (h.mid c1) ho' hkp' hf2 A (by omega) x _ c).mono ?_⟩
      rintro e w2 ⟨rfl, r2, c2⟩
      exact ⟨rfl, h.both s1 c1 (fun j hj => .inl hj) r2 c2 (fun j hj => .inl hj) h.like.began (began_sz m).2 (began_sz m).1 (by omega) (began_kp m h.kp)⟩

theorem dread (h : D w p q n sz k F G m m' X) {g : Nat} (hg : ¬ F g) (hk : k ≤ 1000) (A : Int) :
    ∃ (r : Int) (P1 : Value → World → Prop), Calls Try.prog 12 #[.pointer (some ⟨p, 0, none⟩), .int .i64 A] X (fun e w1 => ∃ x l c, e = .returned (.tuple #[.slice x l c, .int .i64 r]) ∧ P1 (.slice x l c) w1) ∧
    ∀ u w1, P1 u w1 → Stays g X w1 ∧ Calls Try.prog 13 #[.pointer (some ⟨q, 0, none⟩), .int .i64 A] w1 (fun e w2 => ∃ x l c, e = .returned (.tuple #[.slice x l c, .int .i64 r]) ∧ DD w p q n sz (k + 1) w2 ∧
      Calls Try.prog 14 #[u, .slice x l c] w2 fun e w3 => e = .returned (.bool true) ∧ w3 = w2) := by
  have ho : m.ops ≤ 100000000 := by have := h.ops; omega
  have hkp : m.kp.length ≤ 100000000000 := by have := h.kp; omega
  have ho' : m'.ops ≤ 100000000 := by rw [← h.like.ops]; exact ho
  have hkp' : m'.kp.length ≤ 100000000000 := by rw [← h.like.kp]; exact hkp
  have hob := began_ops m
  have hok := h.ops
  have hvl := h.like.vlen
  have hsl := h.like.sz
  by_cases hf : m.fails = true
  · refine ⟨6, fun u w1 => u = .slice none 0 0 ∧ St w1 p F m.began ∧ Chg F X w1, (read_fail h.st ho hkp hf A).mono ?_, ?_⟩
    · rintro e w1 ⟨rfl, s1, c1⟩
      exact ⟨_, _, _, rfl, rfl, s1, c1⟩
    rintro u w1 ⟨rfl, s1, c1⟩
    refine ⟨h.stays hg c1, (rread_fail (h.mid c1) ho' hkp' (by rw [← h.like.fails]; exact hf) A).mono ?_⟩
    rintro e w2 ⟨rfl, r2, c2⟩
    exact ⟨_, _, _, rfl, h.both s1 c1 (fun j hj => .inl hj) r2 c2 (fun j hj => .inl hj) h.like.began (began_sz m).2 (began_sz m).1 (by omega) (began_kp m h.kp), bytes_same (J := no) (K := no) (zs := []) (.inl ⟨rfl, rfl⟩) (.inl ⟨rfl, rfl⟩)⟩
  · have hf' : m.fails = false := by simpa using hf
    have hf2 : m'.fails = false := by rw [← h.like.fails]; exact hf'
    by_cases hr : 0 ≤ A ∧ A < m.V.length
    · obtain ⟨a, rfl⟩ := Int.eq_ofNat_of_zero_le hr.1
      refine ⟨0, fun u w1 => ∃ b, u = .slice (some ⟨b, 0, none⟩) m.sz m.sz ∧ X.heap.size ≤ b ∧ w1.heap[b]? = some (.cells ((m.now.getD a dC).2.map (Value.int .u8)).toArray 5 (0, 0)) ∧ St w1 p F m.began ∧ Chg F X w1, (read_in h.st ho hkp hf' a (by omega)).mono ?_, ?_⟩
      · rintro e w1 ⟨b, rfl, hb, bb, s1, c1⟩
        exact ⟨_, _, _, rfl, b, rfl, hb, bb, s1, c1⟩
      rintro u w1 ⟨b, rfl, hb, bb, s1, c1⟩
      refine ⟨h.stays hg c1, (rread_in (h.mid c1) ho' hkp' hf2 a (by omega)).mono ?_⟩
      rintro e w2 ⟨b2, rfl, hb2, bb2, r2, c2⟩
      have bb3 := c2.heap bb (fun e => by have := h.rt.lt b e; omega)
      rw [← h.like.now a] at bb2
      refine ⟨_, _, _, rfl, h.both s1 c1 (fun j hj => .inl hj) r2 c2 wid_sub h.like.began (began_sz m).2 (began_sz m).1 (by omega) (began_kp m h.kp), ?_⟩
      have hlen : (m.now.getD a dC).2.length = m.sz := by
        obtain ⟨gc, I, vf, vk, hs⟩ := h.st
        exact (hs.now_byt a (by omega)).1
      have e1 := lies_block bb3 m.sz
      have e2 := lies_block bb2 m'.sz
      rw [List.length_map, hlen] at e1 e2
      rw [hsl] at e2
      rw [← hsl] at e2 ⊢
      exact bytes_same e1 e2
    · refine ⟨1, fun u w1 => u = .slice none 0 0 ∧ St w1 p F m.began ∧ Chg F X w1, (read_out h.st ho hkp hf' A hr).mono ?_, ?_⟩
      · rintro e w1 ⟨rfl, s1, c1⟩
        exact ⟨_, _, _, rfl, rfl, s1, c1⟩
      rintro u w1 ⟨rfl, s1, c1⟩
      refine ⟨h.stays hg c1, (rread_out (h.mid c1) ho' hkp' hf2 A (by omega)).mono ?_⟩
      rintro e w2 ⟨rfl, r2, c2⟩
      exact ⟨_, _, _, rfl, h.both s1 c1 (fun j hj => .inl hj) r2 c2 (fun j hj => .inl hj) h.like.began (began_sz m).2 (began_sz m).1 (by omega) (began_kp m h.kp), bytes_same (J := no) (K := no) (zs := []) (.inl ⟨rfl, rfl⟩) (.inl ⟨rfl, rfl⟩)⟩
end
end Go.Proofs.Ytjmdjadnllakpaa.pl
