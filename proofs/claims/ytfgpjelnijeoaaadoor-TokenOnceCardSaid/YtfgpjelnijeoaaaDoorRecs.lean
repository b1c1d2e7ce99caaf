/- Arguments opened: a slice of structs of fields of a cell each, and a slice of whole numbers, that came in. They speak of no law. -/
import Derived.Test.YtfgpjelnijeoaaaDoorMem
import Derived.Test.YtfgpjelnijeoaaaDoorLaw
import Derived.Deep.Slices
import Derived.Deep.Fields
import Derived.ChangeSlices
namespace Go.Proofs.YtfgpjelnijeoaaaDoor
open Go Go.ChangeShapes Go.WideShapes Go.ChangeAt Go.RowKit Go.Deep Tide

/-- The slice value v reads as structs, a list of k cells each, in a block below B. -/
def Recs (w : World) (B : Nat) (v : Value) (k : Nat) (es : List (List Value)) : Prop :=
  es.length ≤ 9223372036854775807 ∧ ∃ A c, v = .slice A es.length c ∧
    (es ≠ [] → ∃ b o, A = some ⟨b, o, none⟩ ∧ b < B ∧ ∀ (i j : Nat) (e : List Value) (u : Value), es[i]? = some e → e[j]? = some u → w.cell? ⟨b, o + (i * k + j), none⟩ = some u)
theorem Recs.keep {w w' : World} {B k : Nat} {v : Value} {es : List (List Value)} (h : Recs w B v k es) (hk : ∀ b o, b < B → w'.cell? ⟨b, o, none⟩ = w.cell? ⟨b, o, none⟩) : Recs w' B v k es := by
  obtain ⟨hn, A, c, rfl, hc⟩ := h
  refine ⟨hn, A, c, rfl, fun hx => ?_⟩
  obtain ⟨b, o, e, hb, hcell⟩ := hc hx
  exact ⟨b, o, e, hb, fun i j e u he hu => (hk _ _ hb).trans (hcell i j e u he hu)⟩
theorem Recs.below {w w' : World} {B k : Nat} {v : Value} {es : List (List Value)} (h : Recs w B v k es) (hb : Below B w w') : Recs w' B v k es := h.keep (below_cells hb)
theorem add_none (b o j : Nat) : (⟨b, o, none⟩ : Addr).add j = ⟨b, o + j, none⟩ := by unfold Addr.add; split <;> simp_all

section
variable {H : Type} {enc : TypeId × Value → H} {P : Program} {W : World}
theorem open_recs {t e : TypeId} {fs : Array Field} {v : Value} {d : DataW H} {p : List MemPlace} (ht : P.underlying t = some (.slice e)) (he : P.underlying e = some (.struct fs)) (hone : oneCellFields P fs = true) (hC : P.cellsOf e = fs.size) (hpos : 0 < fs.size)
    {base : Nat} (hok : Value.okWide P W .any base t v) (h : DataW.Trod enc P W 0 (fun _ => true) true t v d p) :
    ∃ es, Recs W W.heap.size v fs.size es ∧ ∀ x ∈ es, x.length = fs.size ∧ ∀ (j : Nat) (f : Field), fs[j]? = some f → ∃ (u : Value) (n : Nat) (y : DataW H × List MemPlace), x[j]? = some u ∧ DataW.trod enc P W 0 (fun _ => true) true n f.type [u] = some y := by
  obtain ⟨a0, len0, cap0, rfl⟩ := okWide_slice ht hok
  obtain ⟨fuel, hf⟩ := h
  rcases open_slice ht hf with ⟨hcs, _⟩ | ⟨a, len, cap, m, n, D, Pl, hcs, _, hl, hm, hmm, _, hx⟩
  · have : Value.slice a0 len0 cap0 = .slice none 0 0 := by simpa [Value.cells] using hcs
    rw [this]
    exact ⟨[], ⟨by simp, none, 0, rfl, fun h => absurd rfl h⟩, fun x hx => by cases hx⟩
  · have : Value.slice a0 len0 cap0 = .slice (some a) len cap := by simpa [Value.cells] using hcs
    rw [this]
    simp only [if_true] at hmm
    rw [hmm] at hx
    clear hmm
    unfold maxLen at hm
    obtain ⟨C, hCh⟩ := choose_lt (α := List Value) (p := fun i cs => W.cells? 0 (a.add (i * P.cellsOf e)) (P.cellsOf e) = some cs ∧ DataW.trod enc P W 0 (fun _ => true) true n e cs = some (D i, Pl i)) hx
    have hmem : ∀ i, i < len → (C i).length = fs.size ∧ (∀ j, j < fs.size → W.cell? (a.add (i * fs.size + j)) = (C i)[j]?) ∧ ∀ (j : Nat) (f : Field), fs[j]? = some f → ∃ (u : Value) (n : Nat) (y : DataW H × List MemPlace), (C i)[j]? = some u ∧ DataW.trod enc P W 0 (fun _ => true) true n f.type [u] = some y := by
      intro i hi
      obtain ⟨h1, h2⟩ := hCh i (by omega)
      rw [hC] at h1
      obtain ⟨_, hlen, hat⟩ := World.cells?_some h1
      refine ⟨hlen, fun j hj => ?_, fun j f hj => ?_⟩
      · rw [← Go.Deep.add_add]
        exact hat j hj
      · obtain ⟨xs, n', _, _, _, hxl, hfs⟩ := DataW.trod_struct he h2
        obtain ⟨ho, hk⟩ := hone_of hone j f hj
        have hjl : j < fs.size := (Array.getElem?_eq_some_iff.1 hj).1
        have h3 := hfs j f hj
        rw [ho, hk, List.drop_eq_getElem_cons (by omega)] at h3
        refine ⟨_, n', xs[j]'(by omega), List.getElem?_eq_getElem (by omega), ?_⟩
        rw [show ((C i)[j]'(by omega) :: (C i).drop (j + 1)).take 1 = [(C i)[j]'(by omega)] from rfl] at h3
        rw [h3, List.getElem?_eq_getElem (by omega)]
    refine ⟨(List.range len).map C, ⟨by simp; omega, some a, cap, by simp, fun hne => ?_⟩, fun x hx => ?_⟩
    · have hlp : 0 < len := by
        rcases Nat.eq_zero_or_pos len with h0 | h0
        · subst h0; exact absurd rfl hne
        · exact h0
      obtain ⟨b, off, spot⟩ := a
      obtain ⟨hl0, hc0, _⟩ := hmem 0 hlp
      have hc00 := hc0 0 hpos
      rw [List.getElem?_eq_getElem (by omega)] at hc00
      have hspot : spot = none := by simpa [Addr.add] using World.cell?_spot hc00
      subst hspot
      rw [add_none] at hc00
      refine ⟨b, off, rfl, World.block_lt_of_cell? _ _ hc00, fun i j e u he hu => ?_⟩
      have hi : i < len := by
        have := (List.getElem?_eq_some_iff.1 he).1
        simpa using this
      simp [hi] at he
      subst he
      obtain ⟨h1, h2, _⟩ := hmem i hi
      have hj : j < fs.size := by rw [← h1]; exact (List.getElem?_eq_some_iff.1 hu).1
      have := h2 j hj
      rw [add_none] at this
      rw [this, hu]
    · simp only [List.mem_map, List.mem_range] at hx
      obtain ⟨i, hi, rfl⟩ := hx
      exact ⟨(hmem i hi).1, (hmem i hi).2.2⟩

/-- Whole numbers as cells. -/
def int64s (zs : List Int) : List Value := zs.map (Value.int .i64)
theorem int64s_length (zs : List Int) : (int64s zs).length = zs.length := by simp [int64s]
theorem open_int64s {t e : TypeId} {u : Value} {n : Nat} {y : DataW H × List MemPlace} (ht : P.underlying t = some (.slice e)) (he : P.underlying e = some (.int .i64)) (hc : P.cellsOf e = 1)
    (h : DataW.trod enc P W 0 (fun _ => true) true n t [u] = some y) : ∃ zs, Row W W.heap.size u (int64s zs) ∧ ∀ z ∈ zs, -9223372036854775808 ≤ z ∧ z ≤ 9223372036854775807 := by
  rcases open_ints ht he hc h with ⟨hcs, _⟩ | ⟨a, len, cap, zs, hcs, _, hl, hm, hz, _, hcell, hw⟩
  · obtain rfl : u = .slice none 0 0 := by simpa using hcs
    exact ⟨[], ⟨by simp [int64s], none, 0, by simp [int64s], by simp [int64s], by simp, fun h => absurd rfl h⟩, fun z hz => by cases hz⟩
  · obtain rfl : u = .slice (some a) len cap := by simpa using hcs
    simp only [if_true] at hz
    unfold maxLen at hm
    have hlen : (zs.take len).length = len := by rw [List.length_take]; omega
    refine ⟨zs.take len, ⟨by rw [int64s_length]; omega, some a, cap, by rw [int64s_length, hlen], by rw [int64s_length]; omega, by omega, fun hne => ?_⟩, fun z hz => bounds_i64 (hw z (List.mem_of_mem_take hz))⟩
    have hlp : 0 < len := by
      rcases Nat.eq_zero_or_pos len with h0 | h0
      · subst h0; exact absurd (by simp [int64s]) hne
      · exact h0
    obtain ⟨b, off, spot⟩ := a
    have hspot : spot = none := by simpa [Addr.add] using World.cell?_spot (hcell 0 (by omega))
    subst hspot
    refine ⟨b, off, rfl, ?_, fun j u hu => ?_⟩
    · have := World.block_lt_of_cell? _ _ (hcell 0 (by omega))
      rw [add_none] at this
      exact this
    · have hj : j < len := by
        have := (List.getElem?_eq_some_iff.1 hu).1
        rw [int64s_length, hlen] at this
        exact this
      have h1 := hcell j (by omega)
      rw [add_none] at h1
      rw [h1, ← hu]
      unfold int64s
      rw [List.getElem?_map, List.getElem?_take_of_lt hj, List.getElem?_eq_getElem (by omega), List.getD_eq_getElem?_getD, List.getElem?_eq_getElem (by omega)]
      rfl
theorem open_int64 {t : TypeId} {u : Value} {n : Nat} {y : DataW H × List MemPlace} (ht : P.underlying t = some (.int .i64)) (h : DataW.trod enc P W 0 (fun _ => true) true n t [u] = some y) : ∃ z, u = .int .i64 z ∧ -9223372036854775808 ≤ z ∧ z ≤ 9223372036854775807 := by
  obtain ⟨z, hz, _, hw⟩ := DataW.trod_int ht h
  exact ⟨z, by simpa using hz, bounds_i64 hw⟩
theorem open_text {t : TypeId} {u : Value} {n : Nat} {y : DataW H × List MemPlace} (ht : P.underlying t = some .string) (h : DataW.trod enc P W 0 (fun _ => true) true n t [u] = some y) : ∃ s, u = .string s := by
  obtain ⟨s, hs, _, _⟩ := DataW.trod_string ht h
  exact ⟨s, by simpa using hs⟩
end
end Go.Proofs.YtfgpjelnijeoaaaDoor
