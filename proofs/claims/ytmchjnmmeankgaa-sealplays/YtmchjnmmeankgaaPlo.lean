/- Each operation on both oracles; few; operations that came in. -/
import Derived.Test.YtmchjnmmeankgaaPly
import Derived.Deep.SlicePairs
namespace Go.Proofs.Ytmchjnmmeankgaa.st
open Go.ChangeShapes Go.WideShapes Go.ChangeAt Go.RowKit Go.Proofs.Ytmchjnmmeankgaa.hp Go.Proofs.Ytmchjnmmeankgaa.dg
set_option linter.unusedVariables false

/-- The state behind Seal. -/
def OS.sealed (S : OS) (n : Int × Int) (zs : List Int) : OS := if S.why n.1 n.2 zs.length = 0 then S.put n zs else S
/-- What Seal answers. -/
def OS.cellRes (S : OS) (n : Int × Int) (zs : List Int) : List Int := if S.why n.1 n.2 zs.length = 0 then S.cellOf n zs else []

theorem fine_same {A : World → (Nat → Prop) → Prop} {w w' : World} {F : Nat → Prop} (h : A w' F) (hl : ∀ k, F k → k < w.heap.size) (k : Chg no w w') : Fine A w F (.slice none 0 0) [] w' :=
  ⟨F, h, fun j hj => ⟨.inl hj, by have := hl j hj; have := k.size; omega⟩, .inl ⟨rfl, rfl⟩, k.of_no F⟩

section
variable {w wr : World} {p q p' q' : Nat} {S1 S2 : OS} {mv : Value} {vs : List Value} {cs : List (List Int)} {F G H N : Nat → Prop}

theorem PlayIn.seal1 (h : PlayIn w p q p' q' S1 S2 mv vs cs F G H N wr) (hok : S1.Ok) (hp9 : S1.pl.length ≤ 9000000) (g c : Int) (hn : Fits (g, c)) (t : Value) (zs : List Int) (ht : Lies N wr t (zs.map (Value.int .u8))) (hz : zs.length ≤ 100000) :
    Calls Try.prog 13 #[.pointer (some ⟨p, 0, none⟩), nv g c, t] wr fun e w' => ∃ v F' N', e = .returned (.tuple #[v, .int .i64 (S1.why g c zs.length)]) ∧ PlayIn w p q p' q' (S1.sealed (g, c) zs) S2 mv vs cs F' G H N' w' ∧ Keeps N N' wr w' ∧ Lies N' w' v ((S1.cellRes (g, c) zs).map (Value.int .u8)) := by
  by_cases hw : S1.why g c zs.length = 0
  · refine (seal_ok h.orc hok hp9 g c hn t zs ht (fun k hk => ⟨fun e => (h.fg k e).2.2.1 hk, h.nl k hk⟩) hw).mono ?_
    rintro e w' ⟨v, rfl, f, _⟩
    obtain ⟨F', N', h1, h2, h3⟩ := h.left f
    refine ⟨v, F', N', by rw [hw], ?_, h2, ?_⟩
    · unfold OS.sealed
      rw [if_pos hw]
      exact h1
    · unfold OS.cellRes
      rw [if_pos hw]
      exact h3
  · refine (seal_err h.orc g c hn t zs ht (by omega) hok.l2 hw).mono ?_
    rintro e w' ⟨rfl, k⟩
    obtain ⟨F', N', h1, h2, h3⟩ := h.left (fine_same (h.orc.chg k (fun _ _ h => h)) h.orc.lt k)
    refine ⟨_, F', N', rfl, ?_, h2, ?_⟩
    · unfold OS.sealed
      rw [if_neg hw]
      exact h1
    · unfold OS.cellRes
      rw [if_neg hw]
      exact h3

theorem PlayIn.seal2 (h : PlayIn w p q p' q' S1 S2 mv vs cs F G H N wr) (hok : S2.Ok) (hp9 : S2.pl.length ≤ 9000000) (g c : Int) (hn : Fits (g, c)) (t : Value) (zs : List Int) (ht : Lies N wr t (zs.map (Value.int .u8))) (hz : zs.length ≤ 100000) :
    Calls Try.prog 14 #[.pointer (some ⟨p', 0, none⟩), nv g c, t] wr fun e w' => ∃ v G' N', e = .returned (.tuple #[v, .int .i64 (S2.why g c zs.length)]) ∧ PlayIn w p q p' q' S1 (S2.sealed (g, c) zs) mv vs cs F G' H N' w' ∧ Keeps N N' wr w' ∧ Lies N' w' v ((S2.cellRes (g, c) zs).map (Value.int .u8)) ∧ Capd v := by
  by_cases hw : S2.why g c zs.length = 0
  · refine (rseal_ok h.ror hok hp9 g c hn t zs ht (fun k hk => ⟨fun e => (h.gh k e).2.1 hk, h.nl k hk⟩) hw).mono ?_
    rintro e w' ⟨v, rfl, f, hc⟩
    obtain ⟨G', N', h1, h2, h3⟩ := h.right f
    refine ⟨v, G', N', by rw [hw], ?_, h2, ?_, hc⟩
    · unfold OS.sealed
      rw [if_pos hw]
      exact h1
    · unfold OS.cellRes
      rw [if_pos hw]
      exact h3
  · refine (rseal_err h.ror g c hn t zs ht (by omega) hok.l2 hw).mono ?_
    rintro e w' ⟨rfl, k⟩
    obtain ⟨G', N', h1, h2, h3⟩ := h.right (fine_same (h.ror.same k) h.ror.lt k)
    refine ⟨_, G', N', rfl, ?_, h2, ?_, ⟨none, 0, 0, rfl, Nat.le_refl _, Nat.zero_le _⟩⟩
    · unfold OS.sealed
      rw [if_neg hw]
      exact h1
    · unfold OS.cellRes
      rw [if_neg hw]
      exact h3

theorem PlayIn.open1 (h : PlayIn w p q p' q' S1 S2 mv vs cs F G H N wr) (hok : S1.Ok) (x : Option Addr) (cx : Nat) (zs : List Int) (ht : Lies N wr (.slice x zs.length cx) (zs.map (Value.int .u8))) (hb : Bytes zs) (hz : zs.length ≤ 100000) (hc1 : zs.length ≤ cx) (hc2 : cx ≤ maxLen) :
    Calls Try.prog 17 #[.pointer (some ⟨p, 0, none⟩), .slice x zs.length cx] wr fun e w' => ∃ v F' N', e = .returned (.tuple #[v, .int .i64 (S1.code zs)]) ∧ PlayIn w p q p' q' S1 S2 mv vs cs F' G H N' w' ∧ Keeps N N' wr w' ∧ Lies N' w' v ((S1.text zs).map (Value.int .u8)) := by
  refine (open_any h.orc hok x cx zs (by omega) ht hb hc1 hc2).mono ?_
  rintro e w' ⟨v, rfl, hN⟩
  obtain ⟨F', N', h1, h2, h3⟩ := h.left (fine_new (w1 := wr) (h.orc.chg hN.2 (fun _ _ h => h)) (fun k hk => ⟨.inl hk, h.orc.lt k hk⟩) (Chg.refl F wr) hN)
  exact ⟨v, F', N', rfl, h1, h2, h3⟩

theorem PlayIn.open2 (h : PlayIn w p q p' q' S1 S2 mv vs cs F G H N wr) (hok : S2.Ok) (x : Option Addr) (cx : Nat) (zs : List Int) (ht : Lies N wr (.slice x zs.length cx) (zs.map (Value.int .u8))) (hb : Bytes zs) (hz : zs.length ≤ 100000) (hc1 : zs.length ≤ cx) (hc2 : cx ≤ maxLen) :
    Calls Try.prog 18 #[.pointer (some ⟨p', 0, none⟩), .slice x zs.length cx] wr fun e w' => ∃ v G' N', e = .returned (.tuple #[v, .int .i64 (S2.code zs)]) ∧ PlayIn w p q p' q' S1 S2 mv vs cs F G' H N' w' ∧ Keeps N N' wr w' ∧ Lies N' w' v ((S2.text zs).map (Value.int .u8)) := by
  refine (ropen_any h.ror hok x cx zs (by omega) ht hb hc1 hc2).mono ?_
  rintro e w' ⟨v, rfl, hN⟩
  obtain ⟨G', N', h1, h2, h3⟩ := h.right (fine_new (w1 := wr) (h.ror.same hN.2) (fun k hk => ⟨.inl hk, h.ror.lt k hk⟩) (Chg.refl G wr) hN)
  exact ⟨v, G', N', rfl, h1, h2, h3⟩

theorem PlayIn.pad1 (h : PlayIn w p q p' q' S1 S2 mv vs cs F G H N wr) (hok : S1.Ok) (g c : Int) (hn : Fits (g, c)) :
    Calls Try.prog 19 #[.pointer (some ⟨p, 0, none⟩), nv g c] wr fun e w' => ∃ v F' N', e = .returned v ∧ PlayIn w p q p' q' (S1.ask (g, c)) S2 mv vs cs F' G H N' w' ∧ Keeps N N' wr w' ∧ Lies N' w' v (((S1.ask (g, c)).padOf (g, c)).map (Value.int .u8)) := by
  refine (pad_any h.orc hok g c hn).mono ?_
  rintro e w' ⟨v, rfl, f⟩
  obtain ⟨F', N', h1, h2, h3⟩ := h.left f
  exact ⟨v, F', N', rfl, h1, h2, h3⟩

theorem PlayIn.pad2 (h : PlayIn w p q p' q' S1 S2 mv vs cs F G H N wr) (hok : S2.Ok) (g c : Int) (hn : Fits (g, c)) :
    Calls Try.prog 20 #[.pointer (some ⟨p', 0, none⟩), nv g c] wr fun e w' => ∃ v G' N', e = .returned v ∧ PlayIn w p q p' q' S1 (S2.ask (g, c)) mv vs cs F G' H N' w' ∧ Keeps N N' wr w' ∧ Lies N' w' v (((S2.ask (g, c)).padOf (g, c)).map (Value.int .u8)) := by
  refine (rpad_any h.ror hok g c hn).mono ?_
  rintro e w' ⟨v, rfl, f⟩
  obtain ⟨G', N', h1, h2, h3⟩ := h.right f
  exact ⟨v, G', N', rfl, h1, h2, h3⟩
end

/-- The numbers within bounds: the states of a play of i operations. -/
structure OS.At (S : OS) (zs : List Int) (L i : Nat) : Prop where
  zs : S.zs = zs
  L : S.L = L
  k : S.ks.length ≤ i
  p : S.pl.length ≤ i * 100

theorem OS.At.ok {S : OS} {zs : List Int} {L i : Nat} (h : S.At zs L i) (l1 : 1 ≤ L) (l2 : L ≤ 100) (hi : i ≤ 100) : S.Ok ∧ S.pl.length ≤ 9000000 := by
  have := h.k
  have := h.p
  have := h.L
  exact ⟨⟨by omega, by omega, by omega, by omega⟩, by omega⟩

theorem OS.At.more {S : OS} {zs : List Int} {L i : Nat} (h : S.At zs L i) : S.At zs L (i + 1) := ⟨h.zs, h.L, by have := h.k; omega, by have := h.p; omega⟩

theorem ask_len (S : OS) (n : Int × Int) : (S.ask n).ks.length ≤ S.ks.length + 1 := by
  unfold OS.ask
  by_cases h : n ∈ S.ks
  · simp [h]
  · simp [h]

theorem OS.At.ask {S : OS} {zs : List Int} {L i : Nat} (h : S.At zs L i) (n : Int × Int) : (S.ask n).At zs L (i + 1) :=
  ⟨h.zs, h.L, by have := h.k; have := ask_len S n; omega, by have := h.p; show S.pl.length ≤ _; omega⟩

theorem OS.At.sealed {S : OS} {zs : List Int} {L i : Nat} (h : S.At zs L i) (l2 : L ≤ 100) (n : Int × Int) (ys : List Int) : (S.sealed n ys).At zs L (i + 1) := by
  unfold OS.sealed
  by_cases hw : S.why n.1 n.2 ys.length = 0
  · rw [if_pos hw]
    obtain ⟨_, _, hl, _⟩ := why_zero hw
    refine ⟨h.zs, h.L, ?_, ?_⟩
    · have := h.k
      have := ask_len { S with pl := S.pl ++ ys } n
      have e : ({ S with pl := S.pl ++ ys } : OS).ks = S.ks := rfl
      rw [e] at this
      unfold OS.put
      omega
    · rw [put_pl, List.length_append]
      have := h.p
      have := h.L
      omega
  · rw [if_neg hw]
    exact h.more

/-- An operation. -/
structure OpA where
  kind : Int
  k : Int
  g : Int
  c : Int
  b : Value
  zs : List Int

/-- The operations that a slice shows. -/
def OpsAt (w : World) (a : Option Addr) (len : Nat) (O : Nat → OpA) : Prop := ∀ i, i < len → ∃ x, a = some x ∧ w.cell? (x.add (i * 5)) = some (.int .i64 (O i).kind) ∧ w.cell? (x.add (i * 5 + 1)) = some (.int .i64 (O i).k) ∧ w.cell? (x.add (i * 5 + 2)) = some (.int .i64 (O i).g) ∧ w.cell? (x.add (i * 5 + 3)) = some (.int .i64 (O i).c) ∧
  w.cell? (x.add (i * 5 + 4)) = some (O i).b ∧ Lies (Old w) w (O i).b ((O i).zs.map (Value.int .u8)) ∧ Bytes (O i).zs ∧ Capd (O i).b ∧ Fits ((O i).g, (O i).c)

set_option maxRecDepth 100000 in
theorem open_ops {H : Type} {enc : TypeId × Value → H} {w : World} {base fuel : Nat} {x : DataW H × List MemPlace} {a : Option Addr} {len cap : Nat} (h : DataW.trod enc Try.prog w base (fun _ => true) true fuel 23 [.slice a len cap] = some x) : ∃ O, OpsAt w a len O := by
  rcases Deep.open_slice Try.underlying23 h with ⟨hcs, _⟩ | ⟨y, l, c, m, n, D, Pl, hcs, _, hl, hm, hmm, _, hx⟩
  · simp at hcs
    obtain ⟨rfl, rfl, rfl⟩ := hcs
    exact ⟨fun _ => ⟨0, 0, 0, 0, .slice none 0 0, []⟩, fun i hi => by omega⟩
  · simp at hcs
    obtain ⟨rfl, rfl, rfl⟩ := hcs
    have each : ∀ i, i < len → ∃ o : OpA, w.cell? (y.add (i * 5)) = some (.int .i64 o.kind) ∧ w.cell? (y.add (i * 5 + 1)) = some (.int .i64 o.k) ∧ w.cell? (y.add (i * 5 + 2)) = some (.int .i64 o.g) ∧ w.cell? (y.add (i * 5 + 3)) = some (.int .i64 o.c) ∧
        w.cell? (y.add (i * 5 + 4)) = some o.b ∧ Lies (Old w) w o.b (o.zs.map (Value.int .u8)) ∧ Bytes o.zs ∧ Capd o.b ∧ Fits (o.g, o.c) := by
      intro i hi
      obtain ⟨cs', h1, h2⟩ := hx i (by rw [hmm]; split <;> omega)
      have ce : Try.prog.cellsOf 42 = 5 := by kernel_rfl
      rw [ce] at h1
      obtain ⟨_, hlen, hcell⟩ := World.cells?_some h1
      obtain ⟨xs, k, hk, hxy, _, hxl, hf⟩ := DataW.trod_struct Try.underlying42 h2
      match xs, hxl, cs', hlen with
      | [y0, y1, y2, y3], _, [v0, v1, v2, v3, v4], _ =>
        have g0 := hf 0 _ rfl
        have g1 := hf 1 _ rfl
        have g2 := hf 2 _ rfl
        have g3 := hf 3 _ rfl
        have c3 : Try.prog.cellsOf 3 = 1 := by kernel_rfl
        have c40 : Try.prog.cellsOf 40 = 2 := by kernel_rfl
        have c22 : Try.prog.cellsOf 22 = 1 := by kernel_rfl
        simp [c3, c40, c22] at g0 g1 g2 g3
        have e0 := hcell 0 (by omega)
        have e1 := hcell 1 (by omega)
        have e2 := hcell 2 (by omega)
        have e3 := hcell 3 (by omega)
        have e4 := hcell 4 (by omega)
        rw [Deep.add_add] at e0 e1 e2 e3 e4
        obtain ⟨n0, q0, _, _⟩ := DataW.trod_int Try.underlying3 g0
        obtain ⟨n1, q1, _, hw1⟩ := DataW.trod_int Try.underlying3 g1
        obtain ⟨xs2, k2, hk2, hxy2, _, hxl2, hf2⟩ := DataW.trod_struct Try.underlying40 g2
        match xs2, hxl2 with
        | [z0, z1], _ =>
          have s0 := hf2 0 _ rfl
          have s1 := hf2 1 _ rfl
          simp [c3] at s0 s1
          obtain ⟨n2, q2, _, hw2⟩ := DataW.trod_int Try.underlying3 s0
          obtain ⟨n3, q3, _, hw3⟩ := DataW.trod_int Try.underlying3 s1
          obtain ⟨zs, hzs, hbz⟩ := open_bytes g3
          obtain ⟨b1, b2, hb3, _⟩ := hzs.slice
          subst hb3
          have hcp := open_cap Try.underlying22 g3
          simp at q0 q1 q2 q3 e0 e1 e2 e3 e4
          rw [List.length_map] at hzs hcp
          subst q0 q1 q2 q3
          exact ⟨⟨n0, n1, n2, n3, _, zs⟩, e0, e1, e2, e3, e4, hzs, hbz, ⟨_, _, _, rfl, hcp⟩, hw2, hw3⟩
    obtain ⟨O, hO⟩ := @Deep.choose_lt OpA ⟨⟨0, 0, 0, 0, .slice none 0 0, []⟩⟩ _ _ each
    exact ⟨O, fun i hi => ⟨y, rfl, hO i hi⟩⟩

theorem add_field (x : Addr) (i j : Nat) : x.add (i + (j + 1)) = ⟨(x.add i).block, (x.add i).off + (j + 1), none⟩ := by
  unfold Addr.add
  rw [if_neg (by omega)]
  split
  · subst_vars; simp
  · simp; omega

/-- An operation's cells, in the walk's own spelling, in a world that has but new blocks. -/
theorem OpsAt.at {w w' : World} {a : Option Addr} {len : Nat} {O : Nat → OpA} (h : OpsAt w a len O) (c : Chg no w w') (i : Nat) (hi : i < len) :
    ∃ x ab cb, a = some x ∧ (O i).b = .slice ab (O i).zs.length cb ∧ (O i).zs.length ≤ cb ∧ cb ≤ maxLen ∧ w'.cell? (x.add (i * 5)) = some (.int .i64 (O i).kind) ∧ w'.cell? ⟨(x.add (i * 5)).block, (x.add (i * 5)).off + 1, none⟩ = some (.int .i64 (O i).k) ∧ w'.cell? ⟨(x.add (i * 5)).block, (x.add (i * 5)).off + 2, none⟩ = some (.int .i64 (O i).g) ∧
      w'.cell? ⟨(x.add (i * 5)).block, (x.add (i * 5)).off + 3, none⟩ = some (.int .i64 (O i).c) ∧ w'.cell? ⟨(x.add (i * 5)).block, (x.add (i * 5)).off + 4, none⟩ = some (.slice ab (O i).zs.length cb) ∧
      Lies (Old w) w' (.slice ab (O i).zs.length cb) ((O i).zs.map (Value.int .u8)) ∧ Bytes (O i).zs ∧ Fits ((O i).g, (O i).c) := by
  obtain ⟨x, rfl, e0, e1, e2, e3, e4, l, bz, ⟨a1, l1, c1, hb, h1, h2⟩, ft⟩ := h i hi
  obtain ⟨ab, cb, hb2, _⟩ := l.slice
  rw [List.length_map] at hb2
  rw [hb2] at hb
  cases hb
  rw [add_field x (i * 5) 0] at e1
  rw [add_field x (i * 5) 1] at e2
  rw [add_field x (i * 5) 2] at e3
  rw [add_field x (i * 5) 3, hb2] at e4
  rw [hb2] at l
  exact ⟨x, _, _, rfl, hb2, h1, h2, c.cell e0 id, c.cell e1 id, c.cell e2 id, c.cell e3 id, c.cell e4 id, l.chg c (fun _ _ h => h), bz, ft⟩

/-- What few tells. -/
def FewRes (len : Nat) (O : Nat → OpA) (w : World) (e : Ending) (w' : World) : Prop := ∃ b, e = .returned (.bool b) ∧ (b = true → len ≤ 100 ∧ ∀ i, i < len → (O i).zs.length ≤ 20000) ∧ w' = w

set_option maxRecDepth 100000 in
set_option maxHeartbeats 2000000 in
theorem few_any (w : World) (a : Option Addr) (len cap : Nat) (O : Nat → OpA) (h : OpsAt w a len O) (hl : len ≤ cap) (hc : cap ≤ maxLen) : Calls Try.prog 9 #[.slice a len cap] w (FewRes len O w) := by
  have hli : (len : Int) ≤ 9223372036854775807 := by unfold maxLen at hc; omega
  have HO : Hid (OpsAt w a len O) := h
  clear h
  go_enter Try.func9, Try.ntmps9
  go_wp2_with fail
  go_loopw [3, 4] (fun n i wr => ∃ j s : Nat, j ≤ len ∧ j ≤ 100 ∧ i = .int .i64 (j : Int) ∧ n = .int .i64 (s : Int) ∧ s ≤ 20001 * j ∧ (s ≤ 20000 → ∀ t, t < j → (O t).zs.length ≤ 20000) ∧ w = wr) (fun _ i _ => 100 - (intOf i).toNat)
  case atStart => exact ⟨0, 0, by omega, by omega, rfl, rfl, by omega, fun _ t ht => by omega, rfl⟩
  case round =>
    obtain ⟨j, s, hj, hj1, rfl, rfl, hs, hf, rfl⟩ := hrel
    have hsi : (s : Int) ≤ 2000100 := by omega
    by_cases hjl : j < len
    · have hjli : (j : Int) < len := by omega
      by_cases hj2 : j < 100
      · have hj2i : (j : Int) < 100 := by omega
        obtain ⟨x, ab, cb, rfl, hb, _, _, e0, e1, e2, e3, e4, _, _, _⟩ := HO.out.at (Chg.refl no w) j hjl
        obtain ⟨zl, hzl⟩ : ∃ zl, (O j).zs.length = zl := ⟨_, rfl⟩
        rw [hzl] at e4
        obtain ⟨m, hm⟩ : ∃ m, min zl 20001 = m := ⟨_, rfl⟩
        have hm1 : m ≤ 20001 := by omega
        have hmin : (if 20001 < zl then (20001 : Int) else (zl : Int)) = m := by split <;> omega
        have hmin2 : (if (20001 : Int) < (zl : Int) then (20001 : Int) else (zl : Int)) = m := by split <;> omega
        have HF : Hid (s + m ≤ 20000 → ∀ t, t < j + 1 → (O t).zs.length ≤ 20000) := by
          intro hsm t ht
          by_cases e : t = j
          · subst e
            omega
          · exact hf (by omega) t (by omega)
        have hmi : (m : Int) ≤ 20001 := by omega
        clear hf hb hzl hm e0 e1 e2 e3
        go_wp2
        go_roundw
        case rel => exact ⟨j + 1, s + m, by omega, by omega, by go_num, by go_num, by omega, HF.out, by first | rfl | trivial⟩
        case measure => simp [intOf]; omega
      · obtain rfl : j = 100 := by omega
        have hj2i : (100 : Int) ≤ (100 : Int) := by omega
        have HF : Hid ((s ≤ 20000 → ∀ t, t < 100 → (O t).zs.length ≤ 20000)) := hf
        clear hf
        by_cases hs2 : s ≤ 20000
        · have hs3 : (s : Int) ≤ 20000 := by omega
          by_cases hl2 : len ≤ 100
          · omega
          · have hl3 : (100 : Int) < len := by omega
            go_wp2
            go_ret
            exact ⟨_, rfl, fun h => by simp at h <;> omega, rfl⟩
        · have hs3 : (20000 : Int) < s := by omega
          have hl3 : (100 : Int) < len := by omega
          go_wp2
          go_ret
          exact ⟨_, rfl, fun h => by simp at h <;> omega, rfl⟩
    · obtain rfl : j = len := by omega
      have hjli : (j : Int) ≤ (j : Int) := by omega
      have HF : Hid ((s ≤ 20000 → ∀ t, t < j → (O t).zs.length ≤ 20000)) := hf
      have hj3 : (j : Int) ≤ 100 := by omega
      clear hf
      by_cases hs2 : s ≤ 20000
      · have hs3 : (s : Int) ≤ 20000 := by omega
        go_wp2
        go_ret
        exact ⟨_, rfl, fun _ => ⟨hj1, HF.out hs2⟩, rfl⟩
      · have hs3 : (20000 : Int) < s := by omega
        go_wp2
        go_ret
        exact ⟨_, rfl, fun h => by simp at h <;> omega, rfl⟩

end Go.Proofs.Ytmchjnmmeankgaa.st
