/- Arguments opened: a slice of acts that may be broken off. It speaks of no law. -/
import Derived.Test.YtidbmagpnaingaaDoorGOpenS5
import Derived.Test.YtidbmagpnaingaaDoorGSqD
namespace Go.Proofs.YtidbmagpnaingaaDoor
open Go Go.ChangeShapes Go.WideShapes Go.ChangeAt Go.RowKit Go.Deep Tide

section
variable {H : Type} {enc : TypeId × Value → H} {P : Program} {W : World}
theorem open_wholes {t e : TypeId} {K : Nat} {v : Value} {d : DataW H} {p : List MemPlace} (ht : P.underlying t = some (.slice e)) (hC : P.cellsOf e = K) (hpos : 0 < K)
    {base : Nat} (hok : Value.okWide P W .any base t v) (h : DataW.Trod enc P W 0 (fun _ => true) true t v d p) :
    ∃ es, Recs W W.heap.size v K es ∧ ∀ x ∈ es, x.length = K ∧ ∃ (n : Nat) (y : DataW H × List MemPlace), DataW.trod enc P W 0 (fun _ => true) true n e x = some y := by
  obtain ⟨a0, len0, cap0, rfl⟩ := okWide_slice ht hok
  obtain ⟨fuel, hf⟩ := h
  rcases open_slice ht hf with ⟨hcs, _⟩ | ⟨a, len, cap, m, n, D, Pl, hcs, _, hl, hm, hmm, _, hx⟩
  · have : Value.slice a0 len0 cap0 = .slice none 0 0 := by simpa [Value.cells] using hcs
    rw [this]
    exact ⟨[], ⟨by simp, none, 0, rfl, fun h => absurd rfl h⟩, fun x hx => by cases hx⟩
  · have : Value.slice a0 len0 cap0 = .slice (some a) len cap := by simpa [Value.cells] using hcs
    rw [this]
    simp only [if_true] at hmm
    rw [hmm] at hx
    clear hmm
    unfold maxLen at hm
    obtain ⟨C, hCh⟩ := choose_lt (α := List Value) (p := fun i cs => W.cells? 0 (a.add (i * P.cellsOf e)) (P.cellsOf e) = some cs ∧ DataW.trod enc P W 0 (fun _ => true) true n e cs = some (D i, Pl i)) hx
    have hmem : ∀ i, i < len → (C i).length = K ∧ (∀ j, j < K → W.cell? (a.add (i * K + j)) = (C i)[j]?) ∧ ∃ (n : Nat) (y : DataW H × List MemPlace), DataW.trod enc P W 0 (fun _ => true) true n e (C i) = some y := by
      intro i hi
      obtain ⟨h1, h2⟩ := hCh i (by omega)
      rw [hC] at h1
      obtain ⟨_, hlen, hat⟩ := World.cells?_some h1
      refine ⟨hlen, fun j hj => ?_, n, _, h2⟩
      rw [← Go.Deep.add_add]
      exact hat j hj
    refine ⟨(List.range len).map C, ⟨by simp; omega, some a, cap, by simp, fun hne => ?_⟩, fun x hx => ?_⟩
    · have hlp : 0 < len := by
        rcases Nat.eq_zero_or_pos len with h0 | h0
        · subst h0; exact absurd rfl hne
        · exact h0
      obtain ⟨b, off, spot⟩ := a
      obtain ⟨hl0, hc0, _⟩ := hmem 0 hlp
      have hc00 := hc0 0 hpos
      rw [List.getElem?_eq_getElem (by omega)] at hc00
      have hspot : spot = none := by simpa [Addr.add] using World.cell?_spot hc00
      subst hspot
      rw [add_none] at hc00
      refine ⟨b, off, rfl, World.block_lt_of_cell? _ _ hc00, fun i j e u he hu => ?_⟩
      have hi : i < len := by
        have := (List.getElem?_eq_some_iff.1 he).1
        simpa using this
      simp [hi] at he
      subst he
      obtain ⟨h1, h2, _⟩ := hmem i hi
      have hj : j < K := by rw [← h1]; exact (List.getElem?_eq_some_iff.1 hu).1
      have := h2 j hj
      rw [add_none] at this
      rw [this, hu]
    · simp only [List.mem_map, List.mem_range] at hx
      obtain ⟨i, hi, rfl⟩ := hx
      exact ⟨(hmem i hi).1, (hmem i hi).2.2⟩
/-- A field of a struct that reads. -/
theorem field_of {e : TypeId} {fs : Array Field} {x : List Value} {n : Nat} {y : DataW H × List MemPlace} (he : P.underlying e = some (.struct fs)) (h : DataW.trod enc P W 0 (fun _ => true) true n e x = some y) (j : Nat) (f : Field) (hj : fs[j]? = some f) :
    ∃ (n' : Nat) (z : DataW H × List MemPlace), DataW.trod enc P W 0 (fun _ => true) true n' f.type ((x.drop f.offset).take (P.cellsOf f.type)) = some z := by
  obtain ⟨xs, n', _, _, _, hxl, hfs⟩ := DataW.trod_struct he h
  have hjl : j < fs.size := (Array.getElem?_eq_some_iff.1 hj).1
  have h3 := hfs j f hj
  exact ⟨n', _, by rw [h3, List.getElem?_eq_getElem (by omega)]⟩
theorem open_lives {t e : TypeId} {f0 f1 f2 f3 f4 f5 g0 g1 g2 g3 g4 : Field} {v : Value} {d : DataW H} {p : List MemPlace} (ht : P.underlying t = some (.slice e)) (he : P.underlying e = some (.struct #[f0, f1, f2, f3, f4, f5])) (hC : P.cellsOf e = 10)
    (l0 : f0.offset = 0 ∧ P.cellsOf f0.type = 5) (l1 : f1.offset = 5 ∧ P.cellsOf f1.type = 1) (l2 : f2.offset = 6 ∧ P.cellsOf f2.type = 1) (l3 : f3.offset = 7 ∧ P.cellsOf f3.type = 1) (l4 : f4.offset = 8 ∧ P.cellsOf f4.type = 1) (l5 : f5.offset = 9 ∧ P.cellsOf f5.type = 1)
    (h0 : P.underlying f0.type = some (.struct #[g0, g1, g2, g3, g4])) (hone : oneCellFields P #[g0, g1, g2, g3, g4] = true)
    (k0 : P.underlying g0.type = some (.int .i64)) (k1 : P.underlying g1.type = some (.int .i64)) (k2 : P.underlying g2.type = some (.int .u8)) (k3 : P.underlying g3.type = some .bool) (k4 : P.underlying g4.type = some .bool)
    (k5 : P.underlying f1.type = some .bool) (k6 : P.underlying f2.type = some (.int .i64)) (k7 : P.underlying f3.type = some (.int .u64)) (k8 : P.underlying f4.type = some (.int .i64)) (k9 : P.underlying f5.type = some (.int .i64))
    {base : Nat} (hok : Value.okWide P W .any base t v) (h : DataW.Trod enc P W 0 (fun _ => true) true t v d p) : ∃ ks, LivesS W W.heap.size v ks := by
  obtain ⟨es, hr, hx⟩ := open_wholes ht hC (by omega) hok h
  obtain ⟨ks, hks, hz⟩ := pick_acts (f := fun k : LifeS => k.cells.toList) (P := fun k : LifeS => k.after ≤ 9223372036854775807) es (fun x hxm => by
    obtain ⟨hlen, n, y, hty⟩ := hx x hxm
    match x, hlen with
    | [a0, a1, a2, a3, a4, a5, a6, a7, a8, a9], _ =>
      obtain ⟨n0, y0, t0⟩ := field_of he hty 0 f0 rfl
      obtain ⟨n1, y1, t1⟩ := field_of he hty 1 f1 rfl
      obtain ⟨n2, y2, t2⟩ := field_of he hty 2 f2 rfl
      obtain ⟨n3, y3, t3⟩ := field_of he hty 3 f3 rfl
      obtain ⟨n4, y4, t4⟩ := field_of he hty 4 f4 rfl
      obtain ⟨n5, y5, t5⟩ := field_of he hty 5 f5 rfl
      rw [l0.1, l0.2] at t0
      rw [l1.1, l1.2] at t1
      rw [l2.1, l2.2] at t2
      rw [l3.1, l3.2] at t3
      rw [l4.1, l4.2] at t4
      rw [l5.1, l5.2] at t5
      obtain ⟨m0, z0, s0⟩ := field_of h0 t0 0 g0 rfl
      obtain ⟨m1, z1, s1⟩ := field_of h0 t0 1 g1 rfl
      obtain ⟨m2, z2, s2⟩ := field_of h0 t0 2 g2 rfl
      obtain ⟨m3, z3, s3⟩ := field_of h0 t0 3 g3 rfl
      obtain ⟨m4, z4, s4⟩ := field_of h0 t0 4 g4 rfl
      rw [(hone_of hone 0 g0 rfl).1, (hone_of hone 0 g0 rfl).2] at s0
      rw [(hone_of hone 1 g1 rfl).1, (hone_of hone 1 g1 rfl).2] at s1
      rw [(hone_of hone 2 g2 rfl).1, (hone_of hone 2 g2 rfl).2] at s2
      rw [(hone_of hone 3 g3 rfl).1, (hone_of hone 3 g3 rfl).2] at s3
      rw [(hone_of hone 4 g4 rfl).1, (hone_of hone 4 g4 rfl).2] at s4
      obtain ⟨b0, rfl, _, _⟩ := open_int64 k0 (show DataW.trod enc P W 0 (fun _ => true) true m0 g0.type [a0] = some z0 from s0)
      obtain ⟨b1, rfl, _, _⟩ := open_int64 k1 (show DataW.trod enc P W 0 (fun _ => true) true m1 g1.type [a1] = some z1 from s1)
      obtain ⟨b2, rfl⟩ := open_byte k2 (show DataW.trod enc P W 0 (fun _ => true) true m2 g2.type [a2] = some z2 from s2)
      obtain ⟨b3, rfl⟩ := trod_bool' k3 (show DataW.trod enc P W 0 (fun _ => true) true m3 g3.type [a3] = some z3 from s3)
      obtain ⟨b4, rfl⟩ := trod_bool' k4 (show DataW.trod enc P W 0 (fun _ => true) true m4 g4.type [a4] = some z4 from s4)
      obtain ⟨b5, rfl⟩ := trod_bool' k5 (show DataW.trod enc P W 0 (fun _ => true) true n1 f1.type [a5] = some y1 from t1)
      obtain ⟨b6, rfl, _, hb6⟩ := open_int64 k6 (show DataW.trod enc P W 0 (fun _ => true) true n2 f2.type [a6] = some y2 from t2)
      obtain ⟨b7, hb7, _, _⟩ := DataW.trod_int k7 (show DataW.trod enc P W 0 (fun _ => true) true n3 f3.type [a7] = some y3 from t3)
      obtain rfl : a7 = .int .u64 b7 := by simpa using hb7
      obtain ⟨b8, rfl, _, _⟩ := open_int64 k8 (show DataW.trod enc P W 0 (fun _ => true) true n4 f4.type [a8] = some y4 from t4)
      obtain ⟨b9, rfl, _, _⟩ := open_int64 k9 (show DataW.trod enc P W 0 (fun _ => true) true n5 f5.type [a9] = some y5 from t5)
      exact ⟨⟨⟨b0, b1, b2, b3, b4⟩, b5, b6, b7, b8, b9⟩, rfl, hb6⟩)
  subst hks
  exact ⟨ks, hr, hz⟩
end
end Go.Proofs.YtidbmagpnaingaaDoor
