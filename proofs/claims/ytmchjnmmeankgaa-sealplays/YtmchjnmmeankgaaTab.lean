/- A map keyed by structs of two ints, as a list of its keys and elements; no word of the program. -/
import Derived.Test.YtmchjnmmeankgaaHeap
import Derived.Maps.OwnOps
namespace Go.Proofs.Ytmchjnmmeankgaa.hp
open Go.RowKit Go.ChangeMaps Go.MapKept
open Go.Maps (Keyed)
set_option linter.unusedVariables false

/-- A key, as a value. -/
abbrev kvv (k : Int × Int) : Value := .agg #[.int .i64 k.1, .int .i64 k.2]

theorem kvv_inj {a b : Int × Int} (h : kvv a = kvv b) : a = b := by
  simp at h
  exact Prod.ext h.1 h.2

/-- Values that are keys of the type k. -/
def KeyOk (P : Program) (k : TypeId) (x : Int × Int) : Prop := ∃ l, keyOf P k (kvv x) = some l

/-- Block b is a map with these keys and elements, in the order in which they came. -/
def Tab (P : Program) (k : TypeId) (w : World) (b : Nat) (kv : List ((Int × Int) × Value)) : Prop :=
  ∃ es clock, w.heap[b]? = some (.map es clock) ∧ es.toList.map (fun e => (e.key, e.val)) = kv.map (fun x => (kvv x.1, x.2)) ∧ (∀ x ∈ kv, KeyOk P k x.1) ∧ (kv.map (·.1)).Nodup

variable {P : Program} {k e t : TypeId} {w : World} {b : Nat} {kv : List ((Int × Int) × Value)}

theorem Tab.lt (h : Tab P k w b kv) : b < w.heap.size := by
  obtain ⟨es, clock, hb, _⟩ := h
  exact (Array.getElem?_eq_some_iff.1 hb).1

theorem Tab.chg {F : Nat → Prop} {w' : World} (h : Tab P k w b kv) (c : Chg F w w') (hn : ¬ F b) : Tab P k w' b kv := by
  obtain ⟨es, clock, hb, r⟩ := h
  exact ⟨es, clock, c.heap hb hn, r⟩

theorem Tab.ne (h : Tab P k w b kv) {p : Nat} {xs : Array Value} {ty : TypeId} {z : Nat × Nat} (hp : w.heap[p]? = some (.cells xs ty z)) : b ≠ p := by
  obtain ⟨es, clock, hb, _⟩ := h
  rintro rfl
  rw [hb] at hp
  cases hp

theorem tab_made (w : World) : Tab P k (w.alloc (.map #[] 0)) w.heap.size [] := ⟨#[], 0, heap_alloc_new _ _, rfl, by simp, by simp⟩

theorem tab_entry {es : Array MapEntry} (he : es.toList.map (fun e => (e.key, e.val)) = kv.map (fun x => (kvv x.1, x.2))) {x : MapEntry} (hx : x ∈ es.toList) : ∃ y ∈ kv, x.key = kvv y.1 ∧ x.val = y.2 := by
  have : (x.key, x.val) ∈ es.toList.map (fun e => (e.key, e.val)) := List.mem_map.2 ⟨x, hx, rfl⟩
  rw [he] at this
  obtain ⟨y, hy, hxy⟩ := List.mem_map.1 this
  simp only [Prod.mk.injEq] at hxy
  exact ⟨y, hy, hxy.1.symm, hxy.2.symm⟩

theorem tab_back {es : Array MapEntry} (he : es.toList.map (fun e => (e.key, e.val)) = kv.map (fun x => (kvv x.1, x.2))) {y : (Int × Int) × Value} (hy : y ∈ kv) : ∃ x ∈ es.toList, x.key = kvv y.1 ∧ x.val = y.2 := by
  have : (kvv y.1, y.2) ∈ kv.map (fun x => (kvv x.1, x.2)) := List.mem_map.2 ⟨y, hy, rfl⟩
  rw [← he] at this
  obtain ⟨x, hx, hxy⟩ := List.mem_map.1 this
  simp only [Prod.mk.injEq] at hxy
  exact ⟨x, hx, hxy.1, hxy.2⟩

theorem nodup_same {l : List ((Int × Int) × Value)} (h : (l.map (·.1)).Nodup) {a b : (Int × Int) × Value} (ha : a ∈ l) (hb : b ∈ l) (hk : a.1 = b.1) : a = b := by
  induction l with
  | nil => simp at ha
  | cons x l ih =>
    simp only [List.map_cons, List.nodup_cons] at h
    rcases List.mem_cons.1 ha with h1 | h1
    · rcases List.mem_cons.1 hb with h2 | h2
      · rw [h1, h2]
      · exact absurd (List.mem_map.2 ⟨b, h2, by rw [← hk, h1]⟩) h.1
    · rcases List.mem_cons.1 hb with h2 | h2
      · exact absurd (List.mem_map.2 ⟨a, h1, by rw [hk, h2]⟩) h.1
      · exact ih h.2 h1 h2

/-- A look-up of a key that is there. -/
theorem Tab.look (h : Tab P k w b kv) (K : Keyed P k) (ht : P.underlying t = some (.map k e)) {y : (Int × Int) × Value} (hy : y ∈ kv) (c : Bool) :
    (Instr.lookup t (.map (some b)) (kvv y.1) c).run P w = .ok (if c then .tuple #[y.2, .bool true] else y.2) w := by
  obtain ⟨es, clock, hb, he, hk, hn⟩ := h
  obtain ⟨l, hl⟩ := hk y hy
  have hks : ∀ x ∈ es.toList, ∃ l, keyOf P k x.key = some l := fun x hx => by
    obtain ⟨z, hz, h1, _⟩ := tab_entry he hx
    rw [h1]
    exact hk z hz
  rcases K.find w hl es.toList hks with ⟨h1, h2⟩ | ⟨j, e0, h1, h2, h3⟩
  · obtain ⟨x, hx, h4, _⟩ := tab_back he hy
    exact absurd h4 (h2 x hx)
  · obtain ⟨z, hz, h4, h5⟩ := tab_entry he (List.mem_of_getElem? h2)
    rw [h3] at h4
    have hzy : z = y := nodup_same hn hz hy (kvv_inj h4).symm
    subst hzy
    simp [Instr.lookup, run_underlying ht, MapKept.run_getObj_map hb, K.check w _ hl, h1, h5, Result.andThen]

/-- A look-up of a key that is not there. -/
theorem Tab.lack (h : Tab P k w b kv) (K : Keyed P k) (ht : P.underlying t = some (.map k e)) {z : Value} (hz : (zeroValue e).run P w = .ok z w) {x : Int × Int} (hx : KeyOk P k x) (hn : x ∉ kv.map (·.1)) (c : Bool) :
    (Instr.lookup t (.map (some b)) (kvv x) c).run P w = .ok (if c then .tuple #[z, .bool false] else z) w := by
  obtain ⟨es, clock, hb, he, hk, _⟩ := h
  obtain ⟨l, hl⟩ := hx
  have hks : ∀ x ∈ es.toList, ∃ l, keyOf P k x.key = some l := fun x hx => by
    obtain ⟨z, hz, h1, _⟩ := tab_entry he hx
    rw [h1]
    exact hk z hz
  rcases K.find w hl es.toList hks with ⟨h1, h2⟩ | ⟨j, e0, h1, h2, h3⟩
  · simp [Instr.lookup, run_underlying ht, MapKept.run_getObj_map hb, K.check w _ hl, h1, hz, Result.andThen]
  · obtain ⟨y, hy, h4, _⟩ := tab_entry he (List.mem_of_getElem? h2)
    rw [h3] at h4
    exact absurd (List.mem_map.2 ⟨y, hy, (kvv_inj h4).symm⟩) hn

/-- A key that is new. -/
theorem Tab.add (h : Tab P k w b kv) (K : Keyed P k) (ht : P.underlying t = some (.map k e)) {x : Int × Int} (hx : KeyOk P k x) (hn : x ∉ kv.map (·.1)) (v : Value) :
    ∃ w', (Instr.mapUpdate t (.map (some b)) (kvv x) v).run P w = .ok () w' ∧ Tab P k w' b (kv ++ [(x, v)]) ∧ Chg (fun j => j = b) w w' ∧ w'.heap.size = w.heap.size := by
  obtain ⟨es, clock, hb, he, hk, hd⟩ := h
  obtain ⟨l, hl⟩ := hx
  have hks : ∀ x ∈ es.toList, ∃ l, keyOf P k x.key = some l := fun x hx => by
    obtain ⟨z, hz, h1, _⟩ := tab_entry he hx
    rw [h1]
    exact hk z hz
  rcases K.find w hl es.toList hks with ⟨h1, h2⟩ | ⟨j, e0, h1, h2, h3⟩
  · refine ⟨setBlock w b (.map (es.push ⟨kvv x, v, clock⟩) (clock + 1)), ?_, ⟨_, _, heap_setBlock_same hb _, ?_, ?_, ?_⟩, ⟨rfl, rfl, rfl, by simp [setBlock], fun i _ hi => heap_setBlock_other hb _ hi⟩, by simp [setBlock]⟩
    · simp [Instr.mapUpdate, run_underlying ht, MapKept.run_getObj_map hb, K.check w false hl, h1, MapKept.run_setObj_map _ hb, Result.andThen, setBlock]
    · simp [he]
    · intro y hy
      rcases List.mem_append.1 hy with hy | hy
      · exact hk y hy
      · rw [List.mem_singleton.1 hy]
        exact ⟨l, hl⟩
    · rw [List.map_append, List.nodup_append]
      refine ⟨hd, by simp, ?_⟩
      intro a ha c hc
      simp at hc
      subst hc
      intro hac
      subst hac
      exact hn ha
  · obtain ⟨y, hy, h4, _⟩ := tab_entry he (List.mem_of_getElem? h2)
    rw [h3] at h4
    exact absurd (List.mem_map.2 ⟨y, hy, (kvv_inj h4).symm⟩) hn

/-- A store at a new key, at the operation. -/
theorem wpList_mapUpdate_tab {P : Program} {w : World} {ops : Array Oper} {rest : List Oper} {o : Oper} {a : Act} {Q : Exit → Act → World → Prop}
    (hg : o.guard = none) (m x v : Operand) (t : TypeId) (hop : o.op = Op.mapUpdate t m x v)
    (k e : TypeId) (K : Keyed P k) (ht : P.underlying t = some (.map k e)) (b : Nat) (kv : List ((Int × Int) × Value)) (hm : a.eval m = .map (some b)) (hT : Tab P k w b kv)
    (y : Int × Int) (val : Value) (hx : a.eval x = kvv y) (hv : a.eval v = val) (hk : KeyOk P k y) (hn : y ∉ kv.map (·.1))
    (hK : ∀ w', Tab P k w' b (kv ++ [(y, val)]) → Chg (fun j => j = b) w w' → w'.heap.size = w.heap.size → wpList P ops Q rest (a.put o.dst undef) w') :
    wpList P ops Q (o :: rest) a w := by
  refine wpList_plain hg fun K' hK' => ?_
  obtain ⟨w', hrun, r1, r2, r3⟩ := hT.add K ht hk hn val
  unfold Oper.wp
  simp only [execOp, hop, hm, hx, hv]
  simp [hrun, Result.andThen]
  exact hK' _ _ (hK w' r1 r2 r3)

end Go.Proofs.Ytmchjnmmeankgaa.hp
