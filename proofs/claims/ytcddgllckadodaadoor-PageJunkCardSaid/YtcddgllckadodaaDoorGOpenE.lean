/- Arguments opened: an entry that came in, by value. It speaks of no law. -/
import Derived.Test.YtcddgllckadodaaDoorGEntS
import Derived.Test.YtcddgllckadodaaDoorGOpen
import Derived.Lib.SmallJoins
import Derived.ChangeArms
namespace Go.Proofs.YtcddgllckadodaaDoor
open Go Go.Joins Go.ChangeShapes Go.WideShapes Go.ChangeAt Go.RowKit Go.Deep Tide

section
variable {H : Type} {enc : TypeId × Value → H} {P : Program} {W : World}
/-- A struct of fields of a cell each, by value. -/
theorem open_aggs {base b0 : Nat} {spare : Nat → Bool} {held : Bool} {r : Reach} {t : TypeId} {fs : Array Field} {v : Value} {d : DataW H} {p : List MemPlace} (hs : P.underlying t = some (.struct fs)) (hone : oneCellFields P fs = true) (hC : P.cellsOf t = fs.size)
    (hv : Value.okWide P W r b0 t v) (h : DataW.Trod enc P W base spare held t v d p) :
    ∃ cs : Array Value, v = .agg cs ∧ cs.size = fs.size ∧ ∀ (j : Nat) (f : Field), fs[j]? = some f → ∃ (u : Value) (n : Nat) (y : DataW H × List MemPlace), cs[j]? = some u ∧ DataW.trod enc P W base spare held n f.type [u] = some y := by
  obtain ⟨cs, rfl, hsz⟩ := okWide_struct hs hv
  obtain ⟨fuel, hf⟩ := h
  have hc : (Value.agg cs).cells.toList = cs.toList := by simp [Value.cells]
  rw [hc] at hf
  obtain ⟨xs, n', _, _, _, hxl, hfs⟩ := DataW.trod_struct hs hf
  refine ⟨cs, rfl, hsz.trans hC, fun j f hj => ?_⟩
  obtain ⟨ho, hk⟩ := hone_of hone j f hj
  have hjl : j < fs.size := (Array.getElem?_eq_some_iff.1 hj).1
  have hjc : j < cs.size := by rw [hsz, hC]; exact hjl
  have h3 := hfs j f hj
  rw [ho, hk, List.drop_eq_getElem_cons (by simpa using hjc)] at h3
  refine ⟨cs[j], n', xs[j]'(by omega), Array.getElem?_eq_getElem hjc, ?_⟩
  rw [List.getElem?_eq_getElem (by omega)] at h3
  simpa using h3
theorem twelve {cs : Array Value} (h : cs.size = 12) : ∃ c0 c1 c2 c3 c4 c5 c6 c7 c8 c9 c10 c11, cs = #[c0, c1, c2, c3, c4, c5, c6, c7, c8, c9, c10, c11] := by
  obtain ⟨l⟩ := cs
  match l, h with
  | [c0, c1, c2, c3, c4, c5, c6, c7, c8, c9, c10, c11], _ => exact ⟨c0, c1, c2, c3, c4, c5, c6, c7, c8, c9, c10, c11, rfl⟩
theorem pick_ops {α β : Type} {f : α → β} : ∀ es : List β, (∀ x ∈ es, ∃ d, x = f d) → ∃ ds : List α, es = ds.map f
  | [], _ => ⟨[], rfl⟩
  | x :: es, h => by
    obtain ⟨d, hd⟩ := h x (by simp)
    obtain ⟨ds, hl⟩ := pick_ops es (fun y hy => h y (by simp [hy]))
    exact ⟨d :: ds, by rw [hd, hl]; rfl⟩
theorem five_of {x : List Value} {a b c d e : Value} (hl : x.length = 5) (h0 : x[0]? = some a) (h1 : x[1]? = some b) (h2 : x[2]? = some c) (h3 : x[3]? = some d) (h4 : x[4]? = some e) : x = [a, b, c, d, e] := by
  match x, hl with
  | [p, q, r, s, t], _ => simp at h0 h1 h2 h3 h4; subst h0 h1 h2 h3 h4; rfl
/-- A cell that is a slice: it is spelt as one. -/
theorem slice_cell {t e : TypeId} {u : Value} {n : Nat} {y : DataW H × List MemPlace} (ht : P.underlying t = some (.slice e)) (h : DataW.trod enc P W 0 (fun _ => true) true n t [u] = some y) : ∃ a l c, u = .slice a l c := by
  rcases open_slice ht h with ⟨hcs, _⟩ | ⟨a, len, cap, m, n, D, Pl, hcs, _⟩
  · exact ⟨none, 0, 0, by simpa using hcs⟩
  · exact ⟨some a, len, cap, by simpa using hcs⟩
theorem open_recs_c {t e : TypeId} {fs : Array Field} {v : Value} {d : DataW H} {p : List MemPlace} (ht : P.underlying t = some (.slice e)) (he : P.underlying e = some (.struct fs)) (hone : oneCellFields P fs = true) (hC : P.cellsOf e = fs.size) (hpos : 0 < fs.size)
    (hsl : ∃ a l c, v = .slice a l c) (h : DataW.Trod enc P W 0 (fun _ => true) true t v d p) :
    ∃ es, Recs W W.heap.size v fs.size es ∧ ∀ x ∈ es, x.length = fs.size ∧ ∀ (j : Nat) (f : Field), fs[j]? = some f → ∃ (u : Value) (n : Nat) (y : DataW H × List MemPlace), x[j]? = some u ∧ DataW.trod enc P W 0 (fun _ => true) true n f.type [u] = some y := by
  obtain ⟨a0, len0, cap0, rfl⟩ := hsl
  obtain ⟨fuel, hf⟩ := h
  rcases open_slice ht hf with ⟨hcs, _⟩ | ⟨a, len, cap, m, n, D, Pl, hcs, _, hl, hm, hmm, _, hx⟩
  · have : Value.slice a0 len0 cap0 = .slice none 0 0 := by simpa [Value.cells] using hcs
    rw [this]
    exact ⟨[], ⟨by simp, none, 0, rfl, fun h => absurd rfl h⟩, fun x hx => by cases hx⟩
  · have : Value.slice a0 len0 cap0 = .slice (some a) len cap := by simpa [Value.cells] using hcs
    rw [this]
    simp only [if_true] at hmm
    rw [hmm] at hx
    clear hmm
    unfold maxLen at hm
    obtain ⟨C, hCh⟩ := choose_lt (α := List Value) (p := fun i cs => W.cells? 0 (a.add (i * P.cellsOf e)) (P.cellsOf e) = some cs ∧ DataW.trod enc P W 0 (fun _ => true) true n e cs = some (D i, Pl i)) hx
    have hmem : ∀ i, i < len → (C i).length = fs.size ∧ (∀ j, j < fs.size → W.cell? (a.add (i * fs.size + j)) = (C i)[j]?) ∧ ∀ (j : Nat) (f : Field), fs[j]? = some f → ∃ (u : Value) (n : Nat) (y : DataW H × List MemPlace), (C i)[j]? = some u ∧ DataW.trod enc P W 0 (fun _ => true) true n f.type [u] = some y := by
      intro i hi
      obtain ⟨h1, h2⟩ := hCh i (by omega)
      rw [hC] at h1
      obtain ⟨_, hlen, hat⟩ := World.cells?_some h1
      refine ⟨hlen, fun j hj => ?_, fun j f hj => ?_⟩
      · rw [← Go.Deep.add_add]
        exact hat j hj
      · obtain ⟨xs, n', _, _, _, hxl, hfs⟩ := DataW.trod_struct he h2
        obtain ⟨ho, hk⟩ := hone_of hone j f hj
        have hjl : j < fs.size := (Array.getElem?_eq_some_iff.1 hj).1
        have h3 := hfs j f hj
        rw [ho, hk, List.drop_eq_getElem_cons (by omega)] at h3
        refine ⟨_, n', xs[j]'(by omega), List.getElem?_eq_getElem (by omega), ?_⟩
        rw [show ((C i)[j]'(by omega) :: (C i).drop (j + 1)).take 1 = [(C i)[j]'(by omega)] from rfl] at h3
        rw [h3, List.getElem?_eq_getElem (by omega)]
    refine ⟨(List.range len).map C, ⟨by simp; omega, some a, cap, by simp, fun hne => ?_⟩, fun x hx => ?_⟩
    · have hlp : 0 < len := by
        rcases Nat.eq_zero_or_pos len with h0 | h0
        · subst h0; exact absurd rfl hne
        · exact h0
      obtain ⟨b, off, spot⟩ := a
      obtain ⟨hl0, hc0, _⟩ := hmem 0 hlp
      have hc00 := hc0 0 hpos
      rw [List.getElem?_eq_getElem (by omega)] at hc00
      have hspot : spot = none := by simpa [Addr.add] using World.cell?_spot hc00
      subst hspot
      rw [add_none] at hc00
      refine ⟨b, off, rfl, World.block_lt_of_cell? _ _ hc00, fun i j e u he hu => ?_⟩
      have hi : i < len := by
        have := (List.getElem?_eq_some_iff.1 he).1
        simpa using this
      simp [hi] at he
      subst he
      obtain ⟨h1, h2, _⟩ := hmem i hi
      have hj : j < fs.size := by rw [← h1]; exact (List.getElem?_eq_some_iff.1 hu).1
      have := h2 j hj
      rw [add_none] at this
      rw [this, hu]
    · simp only [List.mem_map, List.mem_range] at hx
      obtain ⟨i, hi, rfl⟩ := hx
      exact ⟨(hmem i hi).1, (hmem i hi).2.2⟩
theorem open_bytes_c {t e : TypeId} {v : Value} {d : DataW H} {p : List MemPlace} (ht : P.underlying t = some (.slice e)) (he : P.underlying e = some (.int .u8)) (hc : P.cellsOf e = 1)
    (hsl : ∃ a l c, v = .slice a l c) (h : DataW.Trod enc P W 0 (fun _ => true) true t v d p) : ∃ l, Bytes W W.heap.size v l := by
  obtain ⟨a0, len0, cap0, rfl⟩ := hsl
  obtain ⟨fuel, hf⟩ := h
  rcases open_ints ht he hc hf with ⟨hcs, _⟩ | ⟨a, len, cap, zs, hcs, _, hl, hm, hz, _, hcell, hwz⟩
  · have : Value.slice a0 len0 cap0 = .slice none 0 0 := by simpa [Value.cells] using hcs
    rw [this]
    exact ⟨[], bytes_nil W _⟩
  · have : Value.slice a0 len0 cap0 = .slice (some a) len cap := by simpa [Value.cells] using hcs
    rw [this]
    simp only [if_true] at hz
    exact ⟨_, row_of_cells hl hm (by omega) hwz (fun i hi => hcell i (by omega))⟩
theorem open_ent {t to e eo tb : TypeId} {f0 f1 f2 f3 f4 f5 f6 f7 f8 f9 f10 f11 g0 g1 g2 g3 g4 : Field} {v : Value} {d : DataW H} {p : List MemPlace}
    (hs : P.underlying t = some (.struct #[f0, f1, f2, f3, f4, f5, f6, f7, f8, f9, f10, f11])) (hone : oneCellFields P #[f0, f1, f2, f3, f4, f5, f6, f7, f8, f9, f10, f11] = true) (hC : P.cellsOf t = 12)
    (i0 : P.underlying f0.type = some (.int .i64)) (i1 : P.underlying f1.type = some (.int .i64)) (i2 : P.underlying f2.type = some (.int .i64)) (i3 : P.underlying f3.type = some (.int .i64)) (i4 : P.underlying f4.type = some (.int .i64)) (i5 : P.underlying f5.type = some (.int .i64)) (i8 : P.underlying f8.type = some (.int .i64)) (i9 : P.underlying f9.type = some (.int .i64)) (i10 : P.underlying f10.type = some (.int .i64)) (k7 : P.underlying f7.type = some .string)
    (k6 : f6.type = to) (kt : P.underlying to = some (.slice eo)) (ke : P.underlying eo = some (.struct #[g0, g1, g2, g3, g4])) (hone2 : oneCellFields P #[g0, g1, g2, g3, g4] = true) (hC2 : P.cellsOf eo = 5)
    (j0 : P.underlying g0.type = some (.int .i64)) (j1 : P.underlying g1.type = some .string) (j2 : P.underlying g2.type = some .string) (j3 : P.underlying g3.type = some .string) (j4 : P.underlying g4.type = some (.int .i64))
    (k11 : f11.type = tb) (kb : P.underlying tb = some (.slice e)) (ku : P.underlying e = some (.int .u8)) (hc8 : P.cellsOf e = 1)
    {base : Nat} (hok : Value.okWide P W .any base t v) (h : DataW.Trod enc P W 0 (fun _ => true) true t v d p) :
    ∃ x vo vd, v = .agg (entC x vo vd) ∧ ListsOf W W.heap.size x vo vd := by
  obtain ⟨cs, rfl, hsz, hf⟩ := open_aggs hs hone hC hok h
  obtain ⟨c0, c1, c2, c3, c4, c5, c6, c7, c8, c9, c10, c11, rfl⟩ := twelve hsz
  have int : ∀ (j : Nat) (f : Field) (c : Value), (#[f0, f1, f2, f3, f4, f5, f6, f7, f8, f9, f10, f11])[j]? = some f → (#[c0, c1, c2, c3, c4, c5, c6, c7, c8, c9, c10, c11])[j]? = some c → P.underlying f.type = some (.int .i64) → ∃ z, c = .int .i64 z := by
    intro j f c hj hc hi
    obtain ⟨u, n, y, hu, ht⟩ := hf j f hj
    rw [hc] at hu
    obtain rfl : c = u := by simpa using hu
    obtain ⟨z, rfl, _⟩ := open_int64 hi ht
    exact ⟨z, rfl⟩
  obtain ⟨z0, rfl⟩ := int 0 f0 c0 rfl rfl i0
  obtain ⟨z1, rfl⟩ := int 1 f1 c1 rfl rfl i1
  obtain ⟨z2, rfl⟩ := int 2 f2 c2 rfl rfl i2
  obtain ⟨z3, rfl⟩ := int 3 f3 c3 rfl rfl i3
  obtain ⟨z4, rfl⟩ := int 4 f4 c4 rfl rfl i4
  obtain ⟨z5, rfl⟩ := int 5 f5 c5 rfl rfl i5
  obtain ⟨z8, rfl⟩ := int 8 f8 c8 rfl rfl i8
  obtain ⟨z9, rfl⟩ := int 9 f9 c9 rfl rfl i9
  obtain ⟨z10, rfl⟩ := int 10 f10 c10 rfl rfl i10
  obtain ⟨u7, n7, y7, hu7, t7⟩ := hf 7 f7 rfl
  obtain rfl : c7 = u7 := by simpa using hu7
  obtain ⟨s, rfl⟩ := open_text k7 t7
  obtain ⟨u6, n6, y6, hu6, t6⟩ := hf 6 f6 rfl
  obtain rfl : c6 = u6 := by simpa using hu6
  obtain ⟨u11, n11, y11, hu11, t11⟩ := hf 11 f11 rfl
  obtain rfl : c11 = u11 := by simpa using hu11
  rw [k6] at t6
  rw [k11] at t11
  obtain ⟨A6, n6', c6', rfl⟩ := slice_cell kt t6
  obtain ⟨A11, n11', c11', rfl⟩ := slice_cell kb t11
  obtain ⟨es, hr, hx⟩ := open_recs_c kt ke hone2 hC2 (by simp) ⟨_, _, _, rfl⟩ ⟨n6, by simpa [Value.cells] using t6⟩
  obtain ⟨l, hb⟩ := open_bytes_c kb ku hc8 ⟨_, _, _, rfl⟩ ⟨n11, by simpa [Value.cells] using t11⟩
  obtain ⟨ops, hops⟩ := pick_ops (f := opV) es (fun x hxm => by
    obtain ⟨hlen, hf⟩ := hx x hxm
    obtain ⟨u0, m0, q0, e0, r0⟩ := hf 0 g0 rfl
    obtain ⟨u1, m1, q1, e1, r1⟩ := hf 1 g1 rfl
    obtain ⟨u2, m2, q2, e2, r2⟩ := hf 2 g2 rfl
    obtain ⟨u3, m3, q3, e3, r3⟩ := hf 3 g3 rfl
    obtain ⟨u4, m4, q4, e4, r4⟩ := hf 4 g4 rfl
    obtain ⟨z0, rfl, _⟩ := open_int64 j0 r0
    obtain ⟨s1, rfl⟩ := open_text j1 r1
    obtain ⟨s2, rfl⟩ := open_text j2 r2
    obtain ⟨s3, rfl⟩ := open_text j3 r3
    obtain ⟨z4, rfl, _⟩ := open_int64 j4 r4
    exact ⟨⟨z0, s1, s2, s3, z4⟩, five_of hlen e0 e1 e2 e3 e4⟩)
  subst hops
  exact ⟨⟨z0, z1, z2, z3, z4, z5, ops, s, z8, z9, z10, l⟩, _, _, rfl, hr, hb⟩
end
end Go.Proofs.YtcddgllckadodaaDoor
