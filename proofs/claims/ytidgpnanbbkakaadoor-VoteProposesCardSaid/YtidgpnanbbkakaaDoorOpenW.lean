/- Arguments opened: a slice of what who proposes hears. It speaks of no law. -/
import Derived.Test.YtidgpnanbbkakaaDoorOpen
import Derived.Test.YtidgpnanbbkakaaDoorOpenV
import Derived.Test.YtidgpnanbbkakaaDoorVtF
namespace Go.Proofs.YtidgpnanbbkakaaDoor
open Go Go.ChangeShapes Go.WideShapes Go.ChangeAt Go.RowKit Go.Deep Tide

theorem pick_hears {α β : Type} {f : α → β} {P : α → Prop} : ∀ es : List β, (∀ x ∈ es, ∃ d, x = f d ∧ P d) → ∃ ds : List α, es = ds.map f ∧ ∀ d ∈ ds, P d
  | [], _ => ⟨[], rfl, fun d h => by cases h⟩
  | x :: es, h => by
    obtain ⟨d, hd, hp⟩ := h x (by simp)
    obtain ⟨ds, hl, hq⟩ := pick_hears es (fun y hy => h y (by simp [hy]))
    refine ⟨d :: ds, by rw [hd, hl]; rfl, fun y hy => ?_⟩
    rcases List.mem_cons.1 hy with rfl | hy
    · exact hp
    · exact hq y hy
section
variable {H : Type} {enc : TypeId × Value → H} {P : Program} {W : World}
theorem open_wholes {t e : TypeId} {K : Nat} {v : Value} {d : DataW H} {p : List MemPlace} (ht : P.underlying t = some (.slice e)) (hC : P.cellsOf e = K) (hpos : 0 < K)
    {base : Nat} (hok : Value.okWide P W .any base t v) (h : DataW.Trod enc P W 0 (fun _ => true) true t v d p) :
    ∃ es, Recs W W.heap.size v K es ∧ ∀ x ∈ es, x.length = K ∧ ∃ (n : Nat) (y : DataW H × List MemPlace), DataW.trod enc P W 0 (fun _ => true) true n e x = some y := by
  obtain ⟨a0, len0, cap0, rfl⟩ := okWide_slice ht hok
  obtain ⟨fuel, hf⟩ := h
  rcases open_slice ht hf with ⟨hcs, _⟩ | ⟨a, len, cap, m, n, D, Pl, hcs, _, hl, hm, hmm, _, hx⟩
  · have : Value.slice a0 len0 cap0 = .slice none 0 0 := by simpa [Value.cells] using hcs
    rw [this]
    exact ⟨[], ⟨by simp, none, 0, rfl, fun h => absurd rfl h⟩, fun x hx => by cases hx⟩
  · have : Value.slice a0 len0 cap0 = .slice (some a) len cap := by simpa [Value.cells] using hcs
    rw [this]
    simp only [if_true] at hmm
    rw [hmm] at hx
    clear hmm
    unfold maxLen at hm
    obtain ⟨C, hCh⟩ := choose_lt (α := List Value) (p := fun i cs => W.cells? 0 (a.add (i * P.cellsOf e)) (P.cellsOf e) = some cs ∧ DataW.trod enc P W 0 (fun _ => true) true n e cs = some (D i, Pl i)) hx
    have hmem : ∀ i, i < len → (C i).length = K ∧ (∀ j, j < K → W.cell? (a.add (i * K + j)) = (C i)[j]?) ∧ ∃ (n : Nat) (y : DataW H × List MemPlace), DataW.trod enc P W 0 (fun _ => true) true n e (C i) = some y := by
      intro i hi
      obtain ⟨h1, h2⟩ := hCh i (by omega)
      rw [hC] at h1
      obtain ⟨_, hlen, hat⟩ := World.cells?_some h1
      refine ⟨hlen, fun j hj => ?_, n, _, h2⟩
      rw [← Go.Deep.add_add]
      exact hat j hj
    refine ⟨(List.range len).map C, ⟨by simp; omega, some a, cap, by simp, fun hne => ?_⟩, fun x hx => ?_⟩
    · have hlp : 0 < len := by
        rcases Nat.eq_zero_or_pos len with h0 | h0
        · subst h0; exact absurd rfl hne
        · exact h0
      obtain ⟨b, off, spot⟩ := a
      obtain ⟨hl0, hc0, _⟩ := hmem 0 hlp
      have hc00 := hc0 0 hpos
      rw [List.getElem?_eq_getElem (by omega)] at hc00
      have hspot : spot = none := by simpa [Addr.add] using World.cell?_spot hc00
      subst hspot
      rw [add_none] at hc00
      refine ⟨b, off, rfl, World.block_lt_of_cell? _ _ hc00, fun i j e u he hu => ?_⟩
      have hi : i < len := by
        have := (List.getElem?_eq_some_iff.1 he).1
        simpa using this
      simp [hi] at he
      subst he
      obtain ⟨h1, h2, _⟩ := hmem i hi
      have hj : j < K := by rw [← h1]; exact (List.getElem?_eq_some_iff.1 hu).1
      have := h2 j hj
      rw [add_none] at this
      rw [this, hu]
    · simp only [List.mem_map, List.mem_range] at hx
      obtain ⟨i, hi, rfl⟩ := hx
      exact ⟨(hmem i hi).1, (hmem i hi).2.2⟩
/-- A field of a struct that reads. -/
theorem field_of {e : TypeId} {fs : Array Field} {x : List Value} {n : Nat} {y : DataW H × List MemPlace} (he : P.underlying e = some (.struct fs)) (h : DataW.trod enc P W 0 (fun _ => true) true n e x = some y) (j : Nat) (f : Field) (hj : fs[j]? = some f) :
    ∃ (n' : Nat) (z : DataW H × List MemPlace), DataW.trod enc P W 0 (fun _ => true) true n' f.type ((x.drop f.offset).take (P.cellsOf f.type)) = some z := by
  obtain ⟨xs, n', _, _, _, hxl, hfs⟩ := DataW.trod_struct he h
  have hjl : j < fs.size := (Array.getElem?_eq_some_iff.1 hj).1
  have h3 := hfs j f hj
  exact ⟨n', _, by rw [h3, List.getElem?_eq_getElem (by omega)]⟩
theorem open_hears {t e : TypeId} {f0 f1 f2 f3 g0 g1 g2 : Field} {v : Value} {d : DataW H} {p : List MemPlace} (ht : P.underlying t = some (.slice e)) (he : P.underlying e = some (.struct #[f0, f1, f2, f3])) (hC : P.cellsOf e = 6)
    (l0 : f0.offset = 0 ∧ P.cellsOf f0.type = 1) (l1 : f1.offset = 1 ∧ P.cellsOf f1.type = 3) (l2 : f2.offset = 4 ∧ P.cellsOf f2.type = 1) (l3 : f3.offset = 5 ∧ P.cellsOf f3.type = 1)
    (h0 : P.underlying f1.type = some (.struct #[g0, g1, g2])) (hone : oneCellFields P #[g0, g1, g2] = true)
    (k0 : P.underlying f0.type = some (.int .i64)) (k1 : P.underlying g0.type = some .bool) (k2 : P.underlying g1.type = some (.int .i64)) (k3 : P.underlying g2.type = some .string) (k4 : P.underlying f2.type = some .bool) (k5 : P.underlying f3.type = some .bool)
    {base : Nat} (hok : Value.okWide P W .any base t v) (h : DataW.Trod enc P W 0 (fun _ => true) true t v d p) : ∃ ks, HearsV W W.heap.size v ks := by
  obtain ⟨es, hr, hx⟩ := open_wholes ht hC (by omega) hok h
  obtain ⟨ks, hks, hz⟩ := pick_hears (f := fun k : HearV => k.cells.toList) (P := fun k : HearV => fitsI k.ans.frm) es (fun x hxm => by
    obtain ⟨hlen, n, y, hty⟩ := hx x hxm
    match x, hlen with
    | [a0, a1, a2, a3, a4, a5], _ =>
      obtain ⟨n0, y0, t0⟩ := field_of he hty 0 f0 rfl
      obtain ⟨n1, y1, t1⟩ := field_of he hty 1 f1 rfl
      obtain ⟨n2, y2, t2⟩ := field_of he hty 2 f2 rfl
      obtain ⟨n3, y3, t3⟩ := field_of he hty 3 f3 rfl
      rw [l0.1, l0.2] at t0
      rw [l1.1, l1.2] at t1
      rw [l2.1, l2.2] at t2
      rw [l3.1, l3.2] at t3
      obtain ⟨m0, z0, s0⟩ := field_of h0 t1 0 g0 rfl
      obtain ⟨m1, z1, s1⟩ := field_of h0 t1 1 g1 rfl
      obtain ⟨m2, z2, s2⟩ := field_of h0 t1 2 g2 rfl
      rw [(hone_of hone 0 g0 rfl).1, (hone_of hone 0 g0 rfl).2] at s0
      rw [(hone_of hone 1 g1 rfl).1, (hone_of hone 1 g1 rfl).2] at s1
      rw [(hone_of hone 2 g2 rfl).1, (hone_of hone 2 g2 rfl).2] at s2
      obtain ⟨b0, rfl, q0⟩ := open_int64 k0 (show DataW.trod enc P W 0 (fun _ => true) true n0 f0.type [a0] = some y0 from t0)
      obtain ⟨b1, rfl⟩ := open_yes k1 (show DataW.trod enc P W 0 (fun _ => true) true m0 g0.type [a1] = some z0 from s0)
      obtain ⟨b2, rfl, _, _⟩ := open_int64 k2 (show DataW.trod enc P W 0 (fun _ => true) true m1 g1.type [a2] = some z1 from s1)
      obtain ⟨b3, rfl⟩ := open_text k3 (show DataW.trod enc P W 0 (fun _ => true) true m2 g2.type [a3] = some z2 from s2)
      obtain ⟨b4, rfl⟩ := open_yes k4 (show DataW.trod enc P W 0 (fun _ => true) true n2 f2.type [a4] = some y2 from t2)
      obtain ⟨b5, rfl⟩ := open_yes k5 (show DataW.trod enc P W 0 (fun _ => true) true n3 f3.type [a5] = some y3 from t3)
      exact ⟨⟨⟨b0, b1, b2, b3⟩, b4, b5⟩, rfl, q0⟩)
  subst hks
  exact ⟨ks, hr, hz⟩
end
end Go.Proofs.YtidgpnanbbkakaaDoor
