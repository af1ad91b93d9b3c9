/- What SlabJoins asks of two writers side by side. -/
import Derived.Test.YtleimdlpcgpjfaaCutsS
import Derived.Test.YtleimdlpcgpjfaaEndsS
namespace Go.Proofs.Ytleimdlpcgpjfaa.st
open Go.ChangeShapes Go.WideShapes Go.ChangeAt Go.RowKit Go.Proofs.Ytleimdlpcgpjfaa.hp Go.Proofs.Ytleimdlpcgpjfaa.dg
set_option linter.unusedVariables false

/-- Two writers at p1 and p2, apart from each other and from the blocks of N; what was there in w is as it was. -/
structure Two (w : World) (N : Nat → Prop) (p1 p2 : Nat) (s1 s2 : WS) (wr : World) : Prop where
  ex : ∃ F1 F2 : Nat → Prop, Wri wr p1 F1 s1.1 s1.2 ∧ Wri wr p2 F2 s2.1 s2.2 ∧ (∀ b, F1 b → ¬ F2 b) ∧ (∀ b, F1 b → ¬ N b) ∧ (∀ b, F2 b → ¬ N b)
  lt : ∀ b, N b → b < wr.heap.size
  old : ∀ b, b < w.heap.size → N b
  chg : Chg no w wr

/-- What lies in the blocks of N stays. -/
def Stay (N : Nat → Prop) (wr w' : World) : Prop := ∃ G : Nat → Prop, Chg G wr w' ∧ ∀ b, N b → ¬ G b

section
variable {w wr w' : World} {N : Nat → Prop} {p1 p2 : Nat} {s1 s2 s : WS}

theorem Two.swap (h : Two w N p1 p2 s1 s2 wr) : Two w N p2 p1 s2 s1 wr := by
  obtain ⟨F1, F2, h1, h2, h3, h4, h5⟩ := h.ex
  exact ⟨⟨F2, F1, h2, h1, fun b h h' => h3 b h' h, h5, h4⟩, h.lt, h.old, h.chg⟩

theorem Two.step {F1 F2 : Nat → Prop} (h : Two w N p1 p2 s1 s2 wr) (h2 : Wri wr p2 F2 s2.1 s2.2) (h1 : ∀ b, F1 b → b < wr.heap.size) (h3 : ∀ b, F1 b → ¬ F2 b) (h4 : ∀ b, F1 b → ¬ N b) (h5 : ∀ b, F2 b → ¬ N b) (k : WAt wr p1 F1 s w') :
    Two w N p1 p2 s s2 w' ∧ Stay N wr w' := by
  have z := k.2.size
  refine ⟨⟨⟨Wid F1 wr w', F2, k.1, h2.chg k.2 (fun b hb hb' => h3 b hb' hb), ?_, ?_, h5⟩, fun b hb => Nat.lt_of_lt_of_le (h.lt b hb) z, h.old, h.chg.trans k.2 (fun b hb => .inr ?_)⟩, F1, k.2, fun b hb hb' => h4 b hb' hb⟩
  · intro b hb
    rcases hb with hb | hb
    · exact h3 b hb
    · intro hb'
      have := h2.lt b hb'
      omega
  · intro b hb
    rcases hb with hb | hb
    · exact h4 b hb
    · intro hb'
      have := h.lt b hb'
      omega
  · have := h4 b hb
    by_cases e : b < w.heap.size
    · exact (this (h.old b e)).elim
    · omega

theorem Two.same (h : Two w N p1 p2 s1 s2 wr) (k : Chg no wr w') : Two w N p1 p2 s1 s2 w' := by
  obtain ⟨F1, F2, h1, h2, h3, h4, h5⟩ := h.ex
  exact ⟨⟨F1, F2, h1.same k, h2.same k, h3, h4, h5⟩, fun b hb => Nat.lt_of_lt_of_le (h.lt b hb) k.size, h.old, h.chg.then k⟩

/-- New memory is kept from now on. -/
theorem Two.keep (h : Two w N p1 p2 s1 s2 wr) (k : Chg no wr w') : Two w (fun b => N b ∨ (wr.heap.size ≤ b ∧ b < w'.heap.size)) p1 p2 s1 s2 w' := by
  obtain ⟨F1, F2, h1, h2, h3, h4, h5⟩ := h.ex
  have z := k.size
  refine ⟨⟨F1, F2, h1.same k, h2.same k, h3, ?_, ?_⟩, ?_, fun b hb => .inl (h.old b hb), h.chg.then k⟩
  · intro b hb hb'
    rcases hb' with hb' | hb'
    · exact h4 b hb hb'
    · have := h1.lt b hb
      omega
  · intro b hb hb'
    rcases hb' with hb' | hb'
    · exact h5 b hb hb'
    · have := h2.lt b hb
      omega
  · intro b hb
    rcases hb with hb | hb
    · have := h.lt b hb
      omega
    · exact hb.2

theorem Two.num (h : Two w N p1 p2 s1 s2 wr) (k : Int) {a : Option Addr} {c : Nat} {ns : List Int} (hv : Lies N wr (.slice a ns.length c) (ns.map (Value.int .i64))) (hl : s1.1.length ≤ 90000000) (hn : ns.length ≤ 1000) :
    Calls Try.prog 12 #[.pointer (some ⟨p1, 0, none⟩), .int .i64 k, .slice a ns.length c] wr fun e w' => e = .returned (.pointer (some ⟨p1, 0, none⟩)) ∧ Two w N p1 p2 (nums k s1 ns) s2 w' := by
  obtain ⟨F1, F2, h1, h2, h3, h4, h5⟩ := h.ex
  refine (num_any h1 hl k _ ns hv (fun b hb => ⟨fun e => h4 b e hb, h.lt b hb⟩) hn).mono ?_
  rintro e w' ⟨rfl, hW⟩
  exact ⟨rfl, (h.step h2 h1.lt h3 h4 h5 hW).1⟩

theorem Two.numOne (h : Two w N p1 p2 s1 s2 wr) (k n : Int) {w1 : World} {g : Nat} (k1 : Chg no wr w1) (hg : w1.heap[g]? = some (.cells #[.int .i64 n] 3 (0, 0))) (hgn : wr.heap.size ≤ g) (hl : s2.1.length ≤ 90000000) :
    Calls Try.prog 12 #[.pointer (some ⟨p2, 0, none⟩), .int .i64 k, .slice (some ⟨g, 0, none⟩) 1 1] w1 fun e w' => e = .returned (.pointer (some ⟨p2, 0, none⟩)) ∧ Two w N p1 p2 s1 (nums k s2 [n]) w' := by
  obtain ⟨F1, F2, h1, h2, h3, h4, h5⟩ := h.ex
  refine (num_at h2 hl k1 k [n] (by simp) hg hgn).mono ?_
  rintro e w' ⟨rfl, hW⟩
  exact ⟨rfl, (h.swap.step h1 h2.lt (fun b hb hb' => h3 b hb' hb) h5 h4 hW).1.swap⟩

theorem Two.rawTwo (h : Two w N p1 p2 s1 s2 wr) {a : Option Addr} {c : Nat} {zs : List Int} (hv : Lies N wr (.slice a zs.length c) (zs.map (Value.int .u8))) {w1 : World} {g : Nat} (k1 : Chg no wr w1) (hg : w1.heap[g]? = some (.cells #[.slice a zs.length c, .slice a zs.length c] 26 (0, 0))) (hgn : wr.heap.size ≤ g) (hl : s1.1.length + 2 * zs.length ≤ 90000000) :
    Calls Try.prog 11 #[.pointer (some ⟨p1, 0, none⟩), .slice (some ⟨g, 0, none⟩) 2 2] w1 fun e w' => e = .returned (.pointer (some ⟨p1, 0, none⟩)) ∧ Two w N p1 p2 (raws s1 [zs, zs]) s2 w' := by
  obtain ⟨F1, F2, h1, h2, h3, h4, h5⟩ := h.ex
  refine (raw_at h1 k1 [(.slice a zs.length c, zs), (.slice a zs.length c, zs)] (fun x hx => by simp at hx; subst hx; exact hv) (fun b hb => ⟨fun e => h4 b e hb, h.lt b hb⟩) (by simp) (by simp; omega) hg hgn).mono ?_
  rintro e w' ⟨rfl, hW⟩
  exact ⟨rfl, (h.step h2 h1.lt h3 h4 h5 hW).1⟩

theorem Two.rawOne (h : Two w N p1 p2 s1 s2 wr) {a : Option Addr} {l c : Nat} {zs : List Int} (hv : Lies N wr (.slice a l c) (zs.map (Value.int .u8))) {w1 : World} {g : Nat} (k1 : Chg no wr w1) (hg : w1.heap[g]? = some (.cells #[.slice a l c] 26 (0, 0))) (hgn : wr.heap.size ≤ g) (hl : s2.1.length + zs.length ≤ 90000000) :
    Calls Try.prog 11 #[.pointer (some ⟨p2, 0, none⟩), .slice (some ⟨g, 0, none⟩) 1 1] w1 fun e w' => e = .returned (.pointer (some ⟨p2, 0, none⟩)) ∧ Two w N p1 p2 s1 (raws s2 [zs]) w' ∧ Stay N wr w' := by
  obtain ⟨F1, F2, h1, h2, h3, h4, h5⟩ := h.ex
  refine (raw_at h2 k1 [(.slice a l c, zs)] (fun x hx => by simp at hx; subst hx; exact hv) (fun b hb => ⟨fun e => h5 b e hb, h.lt b hb⟩) (by simp) (by simp; omega) hg hgn).mono ?_
  rintro e w' ⟨rfl, hW⟩
  have q := h.swap.step h1 h2.lt (fun b hb hb' => h3 b hb' hb) h5 h4 hW
  exact ⟨rfl, q.1.swap, q.2⟩

theorem Two.len (h : Two w N p1 p2 s1 s2 wr) : Calls Try.prog 14 #[.pointer (some ⟨p1, 0, none⟩)] wr fun e w' => e = .returned (.int .i64 s1.1.length) ∧ w' = wr := by
  obtain ⟨F1, F2, h1, h2, h3, h4, h5⟩ := h.ex
  exact len_any h1

theorem Two.seal (h : Two w N p1 p2 s1 s2 wr) (hf : s1.2 = false) (n : Nat) (m : Int) (hm : m = (n : Int)) (hn : n ≤ 1048576) (hl : s1.1.length ≤ n) : Calls Try.prog 15 #[.pointer (some ⟨p1, 0, none⟩), .int .i64 m] wr fun e w' => e = .returned (.tuple #[.slice (some ⟨wr.heap.size, 0, none⟩) n n, .int .i64 0]) ∧
      w'.heap[wr.heap.size]? = some (.cells ((fill s1.1 n).map (Value.int .u8)).toArray 5 (0, 0)) ∧ Chg no wr w' := by
  subst hm
  obtain ⟨F1, F2, h1, h2, h3, h4, h5⟩ := h.ex
  rw [hf] at h1
  exact sealed_ok h1 n hn hl
end

/-- Two new writers. -/
theorem Two.new {w w1 : World} (k : Chg no w w1) : Two w (Old w) w1.heap.size (w1.heap.size + 1) ([], false) ([], false) ((w1.alloc (.cells #[.slice none 0 0, .bool false] 28)).alloc (.cells #[.slice none 0 0, .bool false] 28)) := by
  have h1 := wri_new w1
  have h2 := wri_new (w1.alloc (.cells #[.slice none 0 0, .bool false] 28))
  have z1 : (w1.alloc (.cells #[.slice none 0 0, .bool false] 28)).heap.size = w1.heap.size + 1 := by simp
  rw [z1] at h2
  have z := k.size
  refine ⟨⟨_, _, h1.same ((Chg.refl no _).alloc _), h2, fun b hb hb' => by omega, fun b hb hb' => ?_, fun b hb hb' => ?_⟩, fun b hb => ?_, fun b hb => hb, (k.alloc _).alloc _⟩
  · unfold Old at hb'; omega
  · unfold Old at hb'; omega
  · unfold Old at hb; simp; omega

/-- What is written behind j numbers. -/
def vs (k : Nat) (ns : List Int) (j : Nat) : WS := (ns.take j).foldl (stp k) ([], false)

theorem vs_step (k : Nat) (ns : List Int) (j : Nat) (hj : j < ns.length) : vs k ns (j + 1) = stp k (vs k ns j) (ns.getD j 0) := fold_take k ns _ j hj

theorem vs_all (k : Nat) (ns : List Int) (h1 : 1 ≤ k) (h2 : k ≤ 7) : nums k ([], false) ns = vs k ns ns.length := by
  unfold vs nums
  rw [brk_ok k h1 h2, List.take_length]

/-- The first loop: the numbers one by one. -/
def One (w : World) (p1 p2 k : Nat) (ns : List Int) (S : WS) (j : Nat) (wr : World) : Prop := Two w (Old w) p1 p2 S (vs k ns j) wr ∧ (vs k ns j).2 = false ∧ (vs k ns j).1.length = k * j

theorem One.num {w wr : World} {p1 p2 k : Nat} {ns : List Int} {S : WS} {j : Nat} (h : One w p1 p2 k ns S j wr) (hj : j < ns.length) (hl : ns.length ≤ 200) (h1 : 1 ≤ k) (h2 : k ≤ 7) {n : Int} (hn : ns.getD j 0 = n) (h3 : -1 ≤ n) (h4 : n < most k) {w1 : World} {g : Nat} (k1 : Chg no wr w1) (hg : w1.heap[g]? = some (.cells #[.int .i64 n] 3 (0, 0))) (hgn : wr.heap.size ≤ g) :
    Calls Try.prog 12 #[.pointer (some ⟨p2, 0, none⟩), .int .i64 k, .slice (some ⟨g, 0, none⟩) 1 1] w1 fun e w' => e = .returned (.pointer (some ⟨p2, 0, none⟩)) ∧ One w p1 p2 k ns S (j + 1) w' := by
  obtain ⟨hT, hf, hL⟩ := h
  have hb : k * j ≤ 7 * 200 := Nat.mul_le_mul h2 (by omega)
  refine (hT.numOne k n k1 hg hgn (by omega)).mono ?_
  rintro e w' ⟨rfl, hW⟩
  have e1 : vs k ns j = ((vs k ns j).1, false) := by rw [← hf]
  have e2 : vs k ns (j + 1) = ((vs k ns j).1 ++ enc n k, false) := by
    rw [vs_step k ns j hj, hn, e1]
    exact stp_ok k n _ h1 h2 h3 h4
  rw [nums_one k n _ h1 h2] at hW
  have e3 : stp k (vs k ns j) n = vs k ns (j + 1) := by rw [vs_step k ns j hj, hn]
  rw [e3] at hW
  refine ⟨rfl, hW, by rw [e2], ?_⟩
  rw [e2]
  simp only [List.length_append, enc_length, hL]
  rw [Nat.mul_add]
  omega

/-- The second loop: the pieces one by one. -/
def Pie (w : World) (N PB : Nat → Prop) (p1 p2 : Nat) (S : WS) (E zs : List Int) (s n : Nat) (vl : Value) (j : Nat) (wr : World) : Prop :=
  Two w N p1 p2 S (E ++ zs.take (j * s), false) wr ∧ Pcs wr PB vl zs s n ∧ (∀ b, PB b → N b)

theorem piece_front (zs : List Int) (s j m : Nat) (hm : m = min s (zs.length - j * s)) : (piece zs s j).take m = (zs.drop (j * s)).take m := by
  unfold piece fill
  have : ((zs.drop (j * s)).take s).length = m := by simp [hm]
  rw [List.take_append_of_le_length (by omega), List.take_take, Nat.min_eq_left (by omega)]

theorem take_next (zs : List Int) (s j m : Nat) (hm : m = min s (zs.length - j * s)) : zs.take (j * s) ++ (zs.drop (j * s)).take m = zs.take ((j + 1) * s) := by
  rw [Nat.add_mul, Nat.one_mul, List.take_add]
  congr 1
  by_cases h : s ≤ zs.length - j * s
  · rw [hm, Nat.min_eq_left h]
  · rw [hm, Nat.min_eq_right (by omega), List.take_of_length_le (by simp), List.take_of_length_le (by simp; omega)]

theorem Pie.raw {w wr : World} {N PB : Nat → Prop} {p1 p2 : Nat} {S : WS} {E zs : List Int} {s n : Nat} {la : Option Addr} {ll lc : Nat} {j : Nat} (h : Pie w N PB p1 p2 S E zs s n (.slice la ll lc) j wr) (hj : j < n) (hE : E.length + zs.length ≤ 80000000) {m : Nat} (hm : m = min s (zs.length - j * s)) :
    ∃ x g, la = some x ∧ wr.cell? (x.add j) = some (.slice (some ⟨g, 0, none⟩) s s) ∧ (x.add j).block < wr.heap.size ∧ ∀ w1 g1, Chg no wr w1 → w1.heap[g1]? = some (.cells #[.slice (some ⟨g, 0, none⟩) m s] 26 (0, 0)) → wr.heap.size ≤ g1 →
      Calls Try.prog 11 #[.pointer (some ⟨p2, 0, none⟩), .slice (some ⟨g1, 0, none⟩) 1 1] w1 fun e w' => e = .returned (.pointer (some ⟨p2, 0, none⟩)) ∧ Pie w N PB p1 p2 S E zs s n (.slice la ll lc) (j + 1) w' := by
  obtain ⟨hT, hP, hN⟩ := h
  obtain ⟨x, g, hx, hc, hg, hb⟩ := hP.at.2 j hj
  refine ⟨x, g, hx, hc, World.block_lt_of_cell? _ _ hc, fun w1 g1 k1 h1 h2 => ?_⟩
  have hL := block_lies hb
  have hpl := piece_length zs s j
  rw [hpl] at hL
  have hF := lies_front hL (n := m) (by rw [List.length_map, hpl]; omega)
  rw [← List.map_take, piece_front zs s j m hm] at hF
  have hz : ((zs.drop (j * s)).take m).length ≤ zs.length := by simp; omega
  have hz2 := List.length_take_le (j * s) zs
  have hz3 : (zs.take (j * s)).length ≤ zs.length := List.length_take_le' _ _
  have hz4 : (zs.take (j * s)).length + ((zs.drop (j * s)).take m).length ≤ zs.length := by simp; omega
  refine (hT.rawOne (hF.mono (fun b hb => by subst hb; exact hN _ hg)) k1 h1 h2 (by simp only [List.length_append]; omega)).mono ?_
  rintro e w' ⟨rfl, hW, G, hG, hGN⟩
  refine ⟨rfl, ?_, hP.chg hG (fun b hb => hGN b (hN b hb)), hN⟩
  have e1 : raws (E ++ zs.take (j * s), false) [(zs.drop (j * s)).take m] = (E ++ zs.take ((j + 1) * s), false) := by
    rw [← take_next zs s j m hm]
    simp [raws]
  rw [e1] at hW
  exact hW

theorem Pie.last {w wr : World} {N PB : Nat → Prop} {p1 p2 : Nat} {S : WS} {E zs : List Int} {s n : Nat} {vl : Value} (h : Pie w N PB p1 p2 S E zs s n vl n wr) (hn : n = ncell zs.length s) (h1 : 1 ≤ s) (hE : E.length + zs.length ≤ 80000000) (hz : zs.length ≤ 2000) {a : Option Addr} {c : Nat} (hv : Lies (Old w) wr (.slice a zs.length c) (zs.map (Value.int .u8))) {w1 : World} {g : Nat} (k1 : Chg no wr w1) (hg : w1.heap[g]? = some (.cells #[.slice a zs.length c] 26 (0, 0))) (hgn : wr.heap.size ≤ g) :
    Calls Try.prog 11 #[.pointer (some ⟨p2, 0, none⟩), .slice (some ⟨g, 0, none⟩) 1 1] w1 fun e w' => e = .returned (.pointer (some ⟨p2, 0, none⟩)) ∧ Two w N p1 p2 S (E ++ (zs ++ zs), false) w' := by
  obtain ⟨hT, hP, hN⟩ := h
  have hge := ncell_ge zs.length s h1
  rw [← hn] at hge
  rw [List.take_of_length_le hge] at hT
  refine (hT.rawOne (hv.mono (fun b hb => hT.old b hb)) k1 hg hgn (by simp only [List.length_append]; omega)).mono ?_
  rintro e w' ⟨rfl, hW, _⟩
  have e1 : raws (E ++ zs, false) [zs] = (E ++ (zs ++ zs), false) := by simp [raws]
  rw [e1] at hW
  exact ⟨rfl, hW⟩

end Go.Proofs.Ytleimdlpcgpjfaa.st
