/- Arguments opened: a slice of structs of fields of a cell each, and a slice of whole numbers, that came in. They speak of no law. -/
import Derived.Test.YtefcbofjndnpkaaDoorGMem
import Derived.Test.YtefcbofjndnpkaaDoorGLaw
import Derived.Deep.Slices
import Derived.Deep.Fields
import Derived.ChangeSlices
namespace Go.Proofs.YtefcbofjndnpkaaDoor
open Go Go.ChangeShapes Go.WideShapes Go.ChangeAt Go.RowKit Go.Deep Tide

/-- The slice value v reads as structs, a list of k cells each, in a block below B. -/
def Recs (w : World) (B : Nat) (v : Value) (k : Nat) (es : List (List Value)) : Prop :=
  es.length ≤ 9223372036854775807 ∧ ∃ A c, v = .slice A es.length c ∧
    (es ≠ [] → ∃ b o, A = some ⟨b, o, none⟩ ∧ b < B ∧ ∀ (i j : Nat) (e : List Value) (u : Value), es[i]? = some e → e[j]? = some u → w.cell? ⟨b, o + (i * k + j), none⟩ = some u)
theorem Recs.keep {w w' : World} {B k : Nat} {v : Value} {es : List (List Value)} (h : Recs w B v k es) (hk : ∀ b o, b < B → w'.cell? ⟨b, o, none⟩ = w.cell? ⟨b, o, none⟩) : Recs w' B v k es := by
  obtain ⟨hn, A, c, rfl, hc⟩ := h
  refine ⟨hn, A, c, rfl, fun hx => ?_⟩
  obtain ⟨b, o, e, hb, hcell⟩ := hc hx
  exact ⟨b, o, e, hb, fun i j e u he hu => (hk _ _ hb).trans (hcell i j e u he hu)⟩
theorem Recs.below {w w' : World} {B k : Nat} {v : Value} {es : List (List Value)} (h : Recs w B v k es) (hb : Below B w w') : Recs w' B v k es := h.keep (below_cells hb)
theorem add_none (b o j : Nat) : (⟨b, o, none⟩ : Addr).add j = ⟨b, o + j, none⟩ := by unfold Addr.add; split <;> simp_all

section
variable {H : Type} {enc : TypeId × Value → H} {P : Program} {W : World}
theorem open_recs {t e : TypeId} {fs : Array Field} {v : Value} {d : DataW H} {p : List MemPlace} (ht : P.underlying t = some (.slice e)) (he : P.underlying e = some (.struct fs)) (hone : oneCellFields P fs = true) (hC : P.cellsOf e = fs.size) (hpos : 0 < fs.size)
    {base : Nat} (hok : Value.okWide P W .any base t v) (h : DataW.Trod enc P W 0 (fun _ => true) true t v d p) :
    ∃ es, Recs W W.heap.size v fs.size es ∧ ∀ x ∈ es, x.length = fs.size ∧ ∀ (j : Nat) (f : Field), fs[j]? = some f → ∃ (u : Value) (n : Nat) (y : DataW H × List MemPlace), x[j]? = some u ∧ DataW.trod enc P W 0 (fun _ => true) true n f.type [u] = some y := by
  obtain ⟨a0, len0, cap0, rfl⟩ := okWide_slice ht hok
  obtain ⟨fuel, hf⟩ := h
  rcases open_slice ht hf with ⟨hcs, _⟩ | ⟨a, len, cap, m, n, D, Pl, hcs, _, hl, hm, hmm, _, hx⟩
  · have : Value.slice a0 len0 cap0 = .slice none 0 0 := by simpa [Value.cells] using hcs
    rw [this]
    exact ⟨[], ⟨by simp, none, 0, rfl, fun h => absurd rfl h⟩, fun x hx => by cases hx⟩
  · have : Value.slice a0 len0 cap0 = .slice (some a) len cap := by simpa [Value.cells] using hcs
    rw [this]
    simp only [if_true] at hmm
    rw [hmm] at hx
    clear hmm
    unfold maxLen at hm
    obtain ⟨C, hCh⟩ := choose_lt (α := List Value) (p := fun i cs => W.cells? 0 (a.add (i * P.cellsOf e)) (P.cellsOf e) = some cs ∧ DataW.trod enc P W 0 (fun _ => true) true n e cs = some (D i, Pl i)) hx
    have hmem : ∀ i, i < len → (C i).length = fs.size ∧ (∀ j, j < fs.size → W.cell? (a.add (i * fs.size + j)) = (C i)[j]?) ∧ ∀ (j : Nat) (f : Field), fs[j]? = some f → ∃ (u : Value) (n : Nat) (y : DataW H × List MemPlace), (C i)[j]? = some u ∧ DataW.trod enc P W 0 (fun _ => true) true n f.type [u] = some y := by
      intro i hi
      obtain ⟨h1, h2⟩ := hCh i (by omega)
      rw [hC] at h1
      obtain ⟨_, hlen, hat⟩ := World.cells?_some h1
      refine ⟨hlen, fun j hj => ?_, fun j f hj => ?_⟩
      · rw [← Go.Deep.add_add]
        exact hat j hj
      · obtain ⟨xs, n', _, _, _, hxl, hfs⟩ := DataW.trod_struct he h2
        obtain ⟨ho, hk⟩ := hone_of hone j f hj
        have hjl : j < fs.size := (Array.getElem?_eq_some_iff.1 hj).1
        have h3 := hfs j f hj
        rw [ho, hk, List.drop_eq_getElem_cons (by omega)] at h3
        refine ⟨_, n', xs[j]'(by omega), List.getElem?_eq_getElem (by omega), ?_⟩
        rw [show ((C i)[j]'(by omega) :: (C i).drop (j + 1)).take 1 = [(C i)[j]'(by omega)] from rfl] at h3
        rw [h3, List.getElem?_eq_getElem (by omega)]
    refine ⟨(List.range len).map C, ⟨by simp; omega, some a, cap, by simp, fun hne => ?_⟩, fun x hx => ?_⟩
    · have hlp : 0 < len := by
        rcases Nat.eq_zero_or_pos len with h0 | h0
        · subst h0; exact absurd rfl hne
        · exact h0
      obtain ⟨b, off, spot⟩ := a
      obtain ⟨hl0, hc0, _⟩ := hmem 0 hlp
      have hc00 := hc0 0 hpos
      rw [List.getElem?_eq_getElem (by omega)] at hc00
      have hspot : spot = none := by simpa [Addr.add] using World.cell?_spot hc00
      subst hspot
      rw [add_none] at hc00
      refine ⟨b, off, rfl, World.block_lt_of_cell? _ _ hc00, fun i j e u he hu => ?_⟩
      have hi : i < len := by
        have := (List.getElem?_eq_some_iff.1 he).1
        simpa using this
      simp [hi] at he
      subst he
      obtain ⟨h1, h2, _⟩ := hmem i hi
      have hj : j < fs.size := by rw [← h1]; exact (List.getElem?_eq_some_iff.1 hu).1
      have := h2 j hj
      rw [add_none] at this
      rw [this, hu]
    · simp only [List.mem_map, List.mem_range] at hx
      obtain ⟨i, hi, rfl⟩ := hx
      exact ⟨(hmem i hi).1, (hmem i hi).2.2⟩

/-- Whole numbers as cells. -/
def int64s (zs : List Int) : List Value := zs.map (Value.int .i64)
theorem int64s_length (zs : List Int) : (int64s zs).length = zs.length := by simp [int64s]
theorem open_int64s {t e : TypeId} {u : Value} {n : Nat} {y : DataW H × List MemPlace} (ht : P.underlying t = some (.slice e)) (he : P.underlying e = some (.int .i64)) (hc : P.cellsOf e = 1)
    (h : DataW.trod enc P W 0 (fun _ => true) true n t [u] = some y) : ∃ zs, Row W W.heap.size u (int64s zs) ∧ ∀ z ∈ zs, -9223372036854775808 ≤ z ∧ z ≤ 9223372036854775807 := by
  rcases open_ints ht he hc h with ⟨hcs, _⟩ | ⟨a, len, cap, zs, hcs, _, hl, hm, hz, _, hcell, hw⟩
  · obtain rfl : u = .slice none 0 0 := by simpa using hcs
    exact ⟨[], ⟨by simp [int64s], none, 0, by simp [int64s], by simp [int64s], by simp, fun h => absurd rfl h⟩, fun z hz => by cases hz⟩
  · obtain rfl : u = .slice (some a) len cap := by simpa using hcs
    simp only [if_true] at hz
    unfold maxLen at hm
    have hlen : (zs.take len).length = len := by rw [List.length_take]; omega
    refine ⟨zs.take len, ⟨by rw [int64s_length]; omega, some a, cap, by rw [int64s_length, hlen], by rw [int64s_length]; omega, by omega, fun hne => ?_⟩, fun z hz => bounds_i64 (hw z (List.mem_of_mem_take hz))⟩
    have hlp : 0 < len := by
      rcases Nat.eq_zero_or_pos len with h0 | h0
      · subst h0; exact absurd (by simp [int64s]) hne
      · exact h0
    obtain ⟨b, off, spot⟩ := a
    have hspot : spot = none := by simpa [Addr.add] using World.cell?_spot (hcell 0 (by omega))
    subst hspot
    refine ⟨b, off, rfl, ?_, fun j u hu => ?_⟩
    · have := World.block_lt_of_cell? _ _ (hcell 0 (by omega))
      rw [add_none] at this
      exact this
    · have hj : j < len := by
        have := (List.getElem?_eq_some_iff.1 hu).1
        rw [int64s_length, hlen] at this
        exact this
      have h1 := hcell j (by omega)
      rw [add_none] at h1
      rw [h1, ← hu]
      unfold int64s
      rw [List.getElem?_map, List.getElem?_take_of_lt hj, List.getElem?_eq_getElem (by omega), List.getD_eq_getElem?_getD, List.getElem?_eq_getElem (by omega)]
      rfl
theorem open_int64 {t : TypeId} {u : Value} {n : Nat} {y : DataW H × List MemPlace} (ht : P.underlying t = some (.int .i64)) (h : DataW.trod enc P W 0 (fun _ => true) true n t [u] = some y) : ∃ z, u = .int .i64 z ∧ -9223372036854775808 ≤ z ∧ z ≤ 9223372036854775807 := by
  obtain ⟨z, hz, _, hw⟩ := DataW.trod_int ht h
  exact ⟨z, by simpa using hz, bounds_i64 hw⟩
theorem open_text {t : TypeId} {u : Value} {n : Nat} {y : DataW H × List MemPlace} (ht : P.underlying t = some .string) (h : DataW.trod enc P W 0 (fun _ => true) true n t [u] = some y) : ∃ s, u = .string s := by
  obtain ⟨s, hs, _, _⟩ := DataW.trod_string ht h
  exact ⟨s, by simpa using hs⟩
end
end Go.Proofs.YtefcbofjndnpkaaDoor

/- Plans as lists: which are right, where addresses stand, tails; rows of rows of numbers in memory. No walk stands here. -/
namespace Go.Proofs.YtefcbofjndnpkaaDoor
open Go.RowKit Tide

/-- Units' numbers that may be, and none twice. -/
def goodU (l : List Int) : Bool := decide ((∀ u ∈ l, 0 ≤ u ∧ u ≤ 11) ∧ l.Nodup)
/-- A unit that may come behind those. -/
def takeB (l : List Int) (u : Int) : Bool := decide (0 ≤ u) && (decide (u < 12) && !decide (u ∈ l))
/-- A chain has one to three units. -/
def sizeC (c : List Int) : Bool := decide (1 ≤ c.length) && decide (c.length ≤ 3)
/-- A plan is right. -/
def rightB (ep : Int) (cs : List (List Int)) : Bool := decide (0 ≤ ep) && (decide (ep ≤ 1073741824) && (decide (1 ≤ cs.length) && (decide (cs.length ≤ 3) && (cs.all sizeC && goodU cs.flatten))))

theorem good_nil : goodU [] = true := by decide
theorem good_snoc (l : List Int) (u : Int) : goodU (l ++ [u]) = (goodU l && takeB l u) := by
  unfold goodU takeB
  rw [Bool.eq_iff_iff]
  simp only [Bool.and_eq_true, decide_eq_true_eq, Bool.not_eq_true', decide_eq_false_iff_not, List.nodup_append, List.mem_append, List.mem_singleton]
  constructor
  · rintro ⟨h1, h2, _, h3⟩
    have := h1 u (.inr rfl)
    exact ⟨⟨fun x hx => h1 x (.inl hx), h2⟩, this.1, by omega, fun hu => h3 u hu u rfl rfl⟩
  · rintro ⟨⟨h1, h2⟩, h3, h4, h5⟩
    refine ⟨fun x hx => ?_, h2, by simp, fun a ha b hb => ?_⟩
    · rcases hx with hx | rfl
      · exact h1 x hx
      · omega
    · subst hb; rintro rfl; exact h5 ha
theorem good_pre {l m : List Int} (h : goodU (l ++ m) = true) : goodU l = true := by
  unfold goodU at h ⊢
  simp only [decide_eq_true_eq, List.nodup_append] at h ⊢
  exact ⟨fun u hu => h.1 u (List.mem_append_left _ hu), h.2.1⟩
theorem good_false {l m : List Int} (h : goodU l = false) : goodU (l ++ m) = false := by
  cases e : goodU (l ++ m) with
  | false => rfl
  | true => rw [good_pre e] at h; cases h
theorem take_flat (cs : List (List Int)) (k : Nat) (h : k < cs.length) : (cs.take (k + 1)).flatten = (cs.take k).flatten ++ cs[k] := by
  rw [List.take_succ_eq_append_getElem h, List.flatten_append]; simp
theorem flat_split (cs : List (List Int)) (k : Nat) : cs.flatten = (cs.take k).flatten ++ (cs.drop k).flatten := by
  rw [← List.flatten_append, List.take_append_drop]
theorem take_one (c : List Int) (j : Nat) (h : j < c.length) : c.take (j + 1) = c.take j ++ [c[j]] := List.take_succ_eq_append_getElem h
/-- A plan whose chain k is too short or too long. -/
theorem right_size {ep : Int} {cs : List (List Int)} {k : Nat} (hk : k < cs.length) (h : sizeC cs[k] = false) : rightB ep cs = false := by
  have : cs.all sizeC = false := by
    rw [Bool.eq_false_iff]
    intro e
    have := List.all_eq_true.1 e _ (List.getElem_mem hk)
    rw [h] at this; cases this
  unfold rightB
  rw [this]; simp
/-- A plan one of whose units may not come. -/
theorem right_unit {ep : Int} {cs : List (List Int)} {k j : Nat} (hk : k < cs.length) (hj : j < cs[k].length) (h : takeB ((cs.take k).flatten ++ cs[k].take j) cs[k][j] = false) : rightB ep cs = false := by
  have : goodU cs.flatten = false := by
    have e : cs.flatten = ((cs.take k).flatten ++ cs[k].take j ++ [cs[k][j]]) ++ (cs[k].drop (j + 1) ++ (cs.drop (k + 1)).flatten) := by
      have e2 : cs[k].take j ++ [cs[k][j]] = cs[k].take (j + 1) := (take_one _ _ hj).symm
      rw [List.append_assoc (cs.take k).flatten, e2, List.append_assoc, ← List.append_assoc (cs[k].take (j + 1)), List.take_append_drop, ← List.append_assoc, ← take_flat cs k hk, ← flat_split]
    rw [e]
    apply good_false
    rw [good_snoc, h, Bool.and_false]
  unfold rightB
  rw [this]; simp
theorem right_all {ep : Int} {cs : List (List Int)} (h0 : decide (ep < 0) = false) (h1 : decide (1073741824 < ep) = false) (h2 : decide ((cs.length : Int) < 1) = false) (h3 : decide ((3 : Int) < (cs.length : Int)) = false) (h4 : cs.all sizeC = true) (h5 : goodU cs.flatten = true) : rightB ep cs = true := by
  unfold rightB
  rw [h4, h5]
  simp at h0 h1 h2 h3 ⊢
  omega
theorem right_parts {ep : Int} {cs : List (List Int)} (h : rightB ep cs = true) : 0 ≤ ep ∧ ep ≤ 1073741824 ∧ 1 ≤ cs.length ∧ cs.length ≤ 3 ∧ (∀ c ∈ cs, 1 ≤ c.length ∧ c.length ≤ 3) ∧ (∀ u ∈ cs.flatten, 0 ≤ u ∧ u ≤ 11) ∧ cs.flatten.Nodup := by
  unfold rightB goodU at h
  simp only [Bool.and_eq_true, decide_eq_true_eq, List.all_eq_true, sizeC] at h
  obtain ⟨a, b, c, d, e, f, g⟩ := h
  exact ⟨a, b, c, d, e, f, g⟩

/-- The slice value v reads as rows of whole numbers. -/
def Grid (w : World) (B : Nat) (v : Value) (cs : List (List Int)) : Prop :=
  ∃ vs : List Value, Row w B v vs ∧ vs.length = cs.length ∧ ∀ (i : Nat) (u : Value) (c : List Int), vs[i]? = some u → cs[i]? = some c → Row w B u (int64s c)
section
variable {w w' : World} {B B' : Nat} {v : Value} {cs : List (List Int)}
theorem Grid.keep (h : Grid w B v cs) (hk : ∀ b o, b < B → w'.cell? ⟨b, o, none⟩ = w.cell? ⟨b, o, none⟩) : Grid w' B v cs := by
  obtain ⟨vs, h1, h2, h3⟩ := h
  exact ⟨vs, h1.keep hk, h2, fun i u c hu hc => (h3 i u c hu hc).keep hk⟩
theorem Grid.more (h : Grid w B v cs) (hB : B ≤ B') : Grid w B' v cs := by
  obtain ⟨vs, h1, h2, h3⟩ := h
  exact ⟨vs, h1.more hB, h2, fun i u c hu hc => (h3 i u c hu hc).more hB⟩
theorem Grid.below (h : Grid w B v cs) (hb : Below B w w') : Grid w' B v cs := h.keep (below_cells hb)
theorem Grid.form (h : Grid w B v cs) : cs.length ≤ 9223372036854775807 ∧ ∃ A c, v = .slice A cs.length c ∧
    ∀ i (hi : i < cs.length), ∃ b o u, A = some ⟨b, o, none⟩ ∧ b < B ∧ w.cell? ⟨b, o + i, none⟩ = some u ∧ Row w B u (int64s cs[i]) := by
  obtain ⟨vs, ⟨hn, A, c, rfl, h1, h2, hc⟩, hl, h3⟩ := h
  refine ⟨by omega, A, c, by rw [hl], fun i hi => ?_⟩
  have hi' : i < vs.length := by omega
  obtain ⟨b, o, e, hb, hcell⟩ := hc (by intro e; subst e; simp at hi')
  exact ⟨b, o, vs[i], e, hb, hcell i _ (List.getElem?_eq_getElem hi'), h3 i _ _ (List.getElem?_eq_getElem hi') (List.getElem?_eq_getElem hi)⟩
theorem row_ints {l : List Int} (h : Row w B v (int64s l)) : l.length ≤ 9223372036854775807 ∧ ∃ A c, v = .slice A l.length c ∧ ∀ j (hj : j < l.length), ∃ b o, A = some ⟨b, o, none⟩ ∧ b < B ∧ w.cell? ⟨b, o + j, none⟩ = some (.int .i64 l[j]) := by
  obtain ⟨hn, A, c, rfl, _, _, hc⟩ := h
  rw [int64s_length] at hn
  refine ⟨hn, A, c, by rw [int64s_length], fun j hj => ?_⟩
  obtain ⟨b, o, e, hb, hcell⟩ := hc (by intro e; have := int64s_length l; rw [e] at this; simp at this; omega)
  exact ⟨b, o, e, hb, hcell j _ (by simp [int64s, hj])⟩
end

/-- Which units are taken, as an array's cells. -/
def marks (l : List Int) : Array Value := ((List.range 12).map fun (i : Nat) => Value.bool (decide ((i : Int) ∈ l))).toArray
theorem marks_nil : marks [] = #[.bool false, .bool false, .bool false, .bool false, .bool false, .bool false, .bool false, .bool false, .bool false, .bool false, .bool false, .bool false] := by
  unfold marks; simp [List.range, List.range.loop]
theorem marks_get (l : List Int) (n : Nat) (h : n < 12) : (marks l)[n]? = some (.bool (decide ((n : Int) ∈ l))) := by
  unfold marks; simp [h]
theorem marks_set (l : List Int) (n : Nat) (h : n < 12) : (marks l).setIfInBounds n (.bool true) = marks (l ++ [(n : Int)]) := by
  apply Array.ext_getElem?
  intro i
  rw [Array.getElem?_setIfInBounds]
  by_cases hi : i < 12
  · rw [marks_get _ _ hi, marks_get _ _ hi]
    by_cases e : n = i
    · subst e
      have hs : n < (marks l).size := by unfold marks; simpa using h
      simp [hs]
    · rw [if_neg e]
      have : ¬ (i : Int) = (n : Int) := by omega
      simp [this]
  · have h1 : (marks l).size = 12 := by unfold marks; simp
    have h2 : (marks (l ++ [(n : Int)])).size = 12 := by unfold marks; simp
    rw [if_neg (by omega), Array.getElem?_eq_none (by omega), Array.getElem?_eq_none (by omega)]
end Go.Proofs.YtefcbofjndnpkaaDoor
