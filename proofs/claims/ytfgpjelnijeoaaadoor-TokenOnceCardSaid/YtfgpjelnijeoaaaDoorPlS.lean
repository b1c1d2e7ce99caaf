/- Plans as lists: which are right, where addresses stand, tails; rows of rows of numbers in memory. No walk stands here. -/
import Derived.Test.YtfgpjelnijeoaaaDoorRecs
namespace Go.Proofs.YtfgpjelnijeoaaaDoor
open Go.RowKit Tide

/-- Units' numbers that may be, and none twice. -/
def goodU (l : List Int) : Bool := decide ((∀ u ∈ l, 0 ≤ u ∧ u ≤ 11) ∧ l.Nodup)
/-- A unit that may come behind those. -/
def takeB (l : List Int) (u : Int) : Bool := decide (0 ≤ u) && (decide (u < 12) && !decide (u ∈ l))
/-- A chain has one to three units. -/
def sizeC (c : List Int) : Bool := decide (1 ≤ c.length) && decide (c.length ≤ 3)
/-- A plan is right. -/
def rightB (ep : Int) (cs : List (List Int)) : Bool := decide (0 ≤ ep) && (decide (ep ≤ 1073741824) && (decide (1 ≤ cs.length) && (decide (cs.length ≤ 3) && (cs.all sizeC && goodU cs.flatten))))

theorem good_nil : goodU [] = true := by decide
theorem good_snoc (l : List Int) (u : Int) : goodU (l ++ [u]) = (goodU l && takeB l u) := by
  unfold goodU takeB
  rw [Bool.eq_iff_iff]
  simp only [Bool.and_eq_true, decide_eq_true_eq, Bool.not_eq_true', decide_eq_false_iff_not, List.nodup_append, List.mem_append, List.mem_singleton]
  constructor
  · rintro ⟨h1, h2, _, h3⟩
    have := h1 u (.inr rfl)
    exact ⟨⟨fun x hx => h1 x (.inl hx), h2⟩, this.1, by omega, fun hu => h3 u hu u rfl rfl⟩
  · rintro ⟨⟨h1, h2⟩, h3, h4, h5⟩
    refine ⟨fun x hx => ?_, h2, by simp, fun a ha b hb => ?_⟩
    · rcases hx with hx | rfl
      · exact h1 x hx
      · omega
    · subst hb; rintro rfl; exact h5 ha
theorem good_pre {l m : List Int} (h : goodU (l ++ m) = true) : goodU l = true := by
  unfold goodU at h ⊢
  simp only [decide_eq_true_eq, List.nodup_append] at h ⊢
  exact ⟨fun u hu => h.1 u (List.mem_append_left _ hu), h.2.1⟩
theorem good_false {l m : List Int} (h : goodU l = false) : goodU (l ++ m) = false := by
  cases e : goodU (l ++ m) with
  | false => rfl
  | true => rw [good_pre e] at h; cases h
theorem take_flat (cs : List (List Int)) (k : Nat) (h : k < cs.length) : (cs.take (k + 1)).flatten = (cs.take k).flatten ++ cs[k] := by
  rw [List.take_succ_eq_append_getElem h, List.flatten_append]; simp
theorem flat_split (cs : List (List Int)) (k : Nat) : cs.flatten = (cs.take k).flatten ++ (cs.drop k).flatten := by
  rw [← List.flatten_append, List.take_append_drop]
theorem take_one (c : List Int) (j : Nat) (h : j < c.length) : c.take (j + 1) = c.take j ++ [c[j]] := List.take_succ_eq_append_getElem h
/-- A plan whose chain k is too short or too long. -/
theorem right_size {ep : Int} {cs : List (List Int)} {k : Nat} (hk : k < cs.length) (h : sizeC cs[k] = false) : rightB ep cs = false := by
  have : cs.all sizeC = false := by
    rw [Bool.eq_false_iff]
    intro e
    have := List.all_eq_true.1 e _ (List.getElem_mem hk)
    rw [h] at this; cases this
  unfold rightB
  rw [this]; simp
/-- A plan one of whose units may not come. -/
theorem right_unit {ep : Int} {cs : List (List Int)} {k j : Nat} (hk : k < cs.length) (hj : j < cs[k].length) (h : takeB ((cs.take k).flatten ++ cs[k].take j) cs[k][j] = false) : rightB ep cs = false := by
  have : goodU cs.flatten = false := by
    have e : cs.flatten = ((cs.take k).flatten ++ cs[k].take j ++ [cs[k][j]]) ++ (cs[k].drop (j + 1) ++ (cs.drop (k + 1)).flatten) := by
      have e2 : cs[k].take j ++ [cs[k][j]] = cs[k].take (j + 1) := (take_one _ _ hj).symm
      rw [List.append_assoc (cs.take k).flatten, e2, List.append_assoc, ← List.append_assoc (cs[k].take (j + 1)), List.take_append_drop, ← List.append_assoc, ← take_flat cs k hk, ← flat_split]
    rw [e]
    apply good_false
    rw [good_snoc, h, Bool.and_false]
  unfold rightB
  rw [this]; simp
theorem right_all {ep : Int} {cs : List (List Int)} (h0 : decide (ep < 0) = false) (h1 : decide (1073741824 < ep) = false) (h2 : decide ((cs.length : Int) < 1) = false) (h3 : decide ((3 : Int) < (cs.length : Int)) = false) (h4 : cs.all sizeC = true) (h5 : goodU cs.flatten = true) : rightB ep cs = true := by
  unfold rightB
  rw [h4, h5]
  simp at h0 h1 h2 h3 ⊢
  omega
theorem right_parts {ep : Int} {cs : List (List Int)} (h : rightB ep cs = true) : 0 ≤ ep ∧ ep ≤ 1073741824 ∧ 1 ≤ cs.length ∧ cs.length ≤ 3 ∧ (∀ c ∈ cs, 1 ≤ c.length ∧ c.length ≤ 3) ∧ (∀ u ∈ cs.flatten, 0 ≤ u ∧ u ≤ 11) ∧ cs.flatten.Nodup := by
  unfold rightB goodU at h
  simp only [Bool.and_eq_true, decide_eq_true_eq, List.all_eq_true, sizeC] at h
  obtain ⟨a, b, c, d, e, f, g⟩ := h
  exact ⟨a, b, c, d, e, f, g⟩

/-- The slice value v reads as rows of whole numbers. -/
def Grid (w : World) (B : Nat) (v : Value) (cs : List (List Int)) : Prop :=
  ∃ vs : List Value, Row w B v vs ∧ vs.length = cs.length ∧ ∀ (i : Nat) (u : Value) (c : List Int), vs[i]? = some u → cs[i]? = some c → Row w B u (int64s c)
section
variable {w w' : World} {B B' : Nat} {v : Value} {cs : List (List Int)}
theorem Grid.keep (h : Grid w B v cs) (hk : ∀ b o, b < B → w'.cell? ⟨b, o, none⟩ = w.cell? ⟨b, o, none⟩) : Grid w' B v cs := by
  obtain ⟨vs, h1, h2, h3⟩ := h
  exact ⟨vs, h1.keep hk, h2, fun i u c hu hc => (h3 i u c hu hc).keep hk⟩
theorem Grid.more (h : Grid w B v cs) (hB : B ≤ B') : Grid w B' v cs := by
  obtain ⟨vs, h1, h2, h3⟩ := h
  exact ⟨vs, h1.more hB, h2, fun i u c hu hc => (h3 i u c hu hc).more hB⟩
theorem Grid.below (h : Grid w B v cs) (hb : Below B w w') : Grid w' B v cs := h.keep (below_cells hb)
theorem Grid.form (h : Grid w B v cs) : cs.length ≤ 9223372036854775807 ∧ ∃ A c, v = .slice A cs.length c ∧
    ∀ i (hi : i < cs.length), ∃ b o u, A = some ⟨b, o, none⟩ ∧ b < B ∧ w.cell? ⟨b, o + i, none⟩ = some u ∧ Row w B u (int64s cs[i]) := by
  obtain ⟨vs, ⟨hn, A, c, rfl, h1, h2, hc⟩, hl, h3⟩ := h
  refine ⟨by omega, A, c, by rw [hl], fun i hi => ?_⟩
  have hi' : i < vs.length := by omega
  obtain ⟨b, o, e, hb, hcell⟩ := hc (by intro e; subst e; simp at hi')
  exact ⟨b, o, vs[i], e, hb, hcell i _ (List.getElem?_eq_getElem hi'), h3 i _ _ (List.getElem?_eq_getElem hi') (List.getElem?_eq_getElem hi)⟩
theorem row_ints {l : List Int} (h : Row w B v (int64s l)) : l.length ≤ 9223372036854775807 ∧ ∃ A c, v = .slice A l.length c ∧ ∀ j (hj : j < l.length), ∃ b o, A = some ⟨b, o, none⟩ ∧ b < B ∧ w.cell? ⟨b, o + j, none⟩ = some (.int .i64 l[j]) := by
  obtain ⟨hn, A, c, rfl, _, _, hc⟩ := h
  rw [int64s_length] at hn
  refine ⟨hn, A, c, by rw [int64s_length], fun j hj => ?_⟩
  obtain ⟨b, o, e, hb, hcell⟩ := hc (by intro e; have := int64s_length l; rw [e] at this; simp at this; omega)
  exact ⟨b, o, e, hb, hcell j _ (by simp [int64s, hj])⟩
end

/-- Which units are taken, as an array's cells. -/
def marks (l : List Int) : Array Value := ((List.range 12).map fun (i : Nat) => Value.bool (decide ((i : Int) ∈ l))).toArray
theorem marks_nil : marks [] = #[.bool false, .bool false, .bool false, .bool false, .bool false, .bool false, .bool false, .bool false, .bool false, .bool false, .bool false, .bool false] := by
  unfold marks; simp [List.range, List.range.loop]
theorem marks_get (l : List Int) (n : Nat) (h : n < 12) : (marks l)[n]? = some (.bool (decide ((n : Int) ∈ l))) := by
  unfold marks; simp [h]
theorem marks_set (l : List Int) (n : Nat) (h : n < 12) : (marks l).setIfInBounds n (.bool true) = marks (l ++ [(n : Int)]) := by
  apply Array.ext_getElem?
  intro i
  rw [Array.getElem?_setIfInBounds]
  by_cases hi : i < 12
  · rw [marks_get _ _ hi, marks_get _ _ hi]
    by_cases e : n = i
    · subst e
      have hs : n < (marks l).size := by unfold marks; simpa using h
      simp [hs]
    · rw [if_neg e]
      have : ¬ (i : Int) = (n : Int) := by omega
      simp [this]
  · have h1 : (marks l).size = 12 := by unfold marks; simp
    have h2 : (marks (l ++ [(n : Int)])).size = 12 := by unfold marks; simp
    rw [if_neg (by omega), Array.getElem?_eq_none (by omega), Array.getElem?_eq_none (by omega)]
end Go.Proofs.YtfgpjelnijeoaaaDoor
