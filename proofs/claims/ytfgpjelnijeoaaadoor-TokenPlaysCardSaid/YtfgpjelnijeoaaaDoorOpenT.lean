/- Arguments opened: a slice of asks (or of backs: a number and a list of numbers each); with what a sequencer begins, by value. They speak of no law. -/
import Derived.Test.YtfgpjelnijeoaaaDoorOpenAg
import Derived.Test.YtfgpjelnijeoaaaDoorTkF
namespace Go.Proofs.YtfgpjelnijeoaaaDoor
open Go Go.Joins Go.ChangeShapes Go.WideShapes Go.ChangeAt Go.RowKit Go.Deep Tide

theorem pick_asks {α β : Type} {R : α → β → Prop} : ∀ es : List β, (∀ x ∈ es, ∃ d, R d x) → ∃ ds : List α, es.length = ds.length ∧ ∀ i (h : i < ds.length), ∃ e, es[i]? = some e ∧ R ds[i] e
  | [], _ => ⟨[], rfl, fun i h => by simp at h⟩
  | x :: es, h => by
    obtain ⟨d, hd⟩ := h x (by simp)
    obtain ⟨ds, hl, hr⟩ := pick_asks es (fun y hy => h y (by simp [hy]))
    refine ⟨d :: ds, by simp [hl], fun i hi => ?_⟩
    rcases i with _ | i
    · exact ⟨x, rfl, hd⟩
    · exact hr i (by simpa using hi)
theorem ask_two {x : List Value} {a b : Value} (hl : x.length = 2) (h0 : x[0]? = some a) (h1 : x[1]? = some b) : x = [a, b] := by
  match x, hl with
  | [p, q], _ => simp at h0 h1; subst h0 h1; rfl
theorem three_cells {cs : Array Value} (h : cs.size = 3) : ∃ c0 c1 c2, cs = #[c0, c1, c2] := by
  obtain ⟨l⟩ := cs
  match l, h with
  | [c0, c1, c2], _ => exact ⟨c0, c1, c2, rfl⟩
section
variable {H : Type} {enc : TypeId × Value → H} {P : Program} {W : World}
theorem asks_of {v : Value} {es : List (List Value)} {f0 f1 : Field} {e3 : TypeId} (k0 : P.underlying f0.type = some (.int .i64)) (k3 : P.underlying f1.type = some (.slice e3)) (k4 : P.underlying e3 = some (.int .i64)) (k5 : P.cellsOf e3 = 1)
    (hr : Recs W W.heap.size v 2 es) (hx : ∀ x ∈ es, x.length = 2 ∧ ∀ (j : Nat) (f : Field), (#[f0, f1] : Array Field)[j]? = some f → ∃ (u : Value) (n : Nat) (y : DataW H × List MemPlace), x[j]? = some u ∧ DataW.trod enc P W 0 (fun _ => true) true n f.type [u] = some y) : ∃ ds, Backs W W.heap.size v ds := by
  obtain ⟨ds, hl, hds⟩ := pick_asks (R := fun (d : Int × List Int) (x : List Value) => ∃ u, x = [.int .i64 d.1, u] ∧ Row W W.heap.size u (int64s d.2)) es (fun x hxm => by
    obtain ⟨hlen, hf⟩ := hx x hxm
    obtain ⟨u0, n0, y0, g0, t0⟩ := hf 0 f0 rfl
    obtain ⟨u1, n1, y1, g1, t1⟩ := hf 1 f1 rfl
    obtain ⟨z0, rfl, _, _⟩ := open_int64 k0 t0
    obtain ⟨zs, hrow, _⟩ := open_int64s k3 k4 k5 t1
    exact ⟨⟨z0, zs⟩, u1, ask_two hlen g0 g1, hrow⟩)
  refine ⟨ds, es, hr, hl, fun i hi => ?_⟩
  obtain ⟨e, he, u, rfl, h3⟩ := hds i hi
  exact ⟨u, he, h3⟩
theorem open_asks {t e e3 : TypeId} {f0 f1 : Field} {v : Value} {d : DataW H} {p : List MemPlace} (ht : P.underlying t = some (.slice e)) (he : P.underlying e = some (.struct #[f0, f1])) (hone : oneCellFields P #[f0, f1] = true) (hC : P.cellsOf e = 2)
    (k0 : P.underlying f0.type = some (.int .i64)) (k3 : P.underlying f1.type = some (.slice e3)) (k4 : P.underlying e3 = some (.int .i64)) (k5 : P.cellsOf e3 = 1)
    {base : Nat} (hok : Value.okWide P W .any base t v) (h : DataW.Trod enc P W 0 (fun _ => true) true t v d p) : ∃ ds, Backs W W.heap.size v ds := by
  obtain ⟨es, hr, hx⟩ := open_recs ht he hone hC (by simp) hok h
  exact asks_of k0 k3 k4 k5 hr hx
theorem open_start {t tb e e3 : TypeId} {g0 g1 g2 f0 f1 : Field} {v : Value} {d : DataW H} {p : List MemPlace} (hs : P.underlying t = some (.struct #[g0, g1, g2])) (hone0 : oneCellFields P #[g0, g1, g2] = true) (hC0 : P.cellsOf t = 3)
    (i0 : P.underlying g0.type = some (.int .i64)) (i1 : P.underlying g1.type = some (.int .i64)) (i2 : g2.type = tb) (ht : P.underlying tb = some (.slice e)) (he : P.underlying e = some (.struct #[f0, f1])) (hone : oneCellFields P #[f0, f1] = true) (hC : P.cellsOf e = 2)
    (k0 : P.underlying f0.type = some (.int .i64)) (k3 : P.underlying f1.type = some (.slice e3)) (k4 : P.underlying e3 = some (.int .i64)) (k5 : P.cellsOf e3 = 1)
    {base : Nat} (hok : Value.okWide P W .any base t v) (h : DataW.Trod enc P W 0 (fun _ => true) true t v d p) : ∃ ep nx u bs, v = startV ep nx u ∧ Backs W W.heap.size u bs := by
  subst i2
  obtain ⟨cs, rfl, hsz, hf⟩ := open_aggs hs hone0 hC0 hok h
  obtain ⟨c0, c1, c2, rfl⟩ := three_cells hsz
  obtain ⟨u0, n0, y0, e0, t0⟩ := hf 0 g0 rfl
  obtain ⟨u1, n1, y1, e1, t1⟩ := hf 1 g1 rfl
  obtain ⟨u2, n2, y2, e2, t2⟩ := hf 2 g2 rfl
  obtain ⟨z0, rfl, _, _⟩ := open_int64 i0 t0
  obtain ⟨z1, rfl, _, _⟩ := open_int64 i1 t1
  obtain ⟨es, hr, hx⟩ := open_recs_c ht he hone hC (by simp) (slice_cell ht t2) (h := ⟨n2, by
    obtain ⟨a, l, c, rfl⟩ := slice_cell ht t2
    exact t2⟩)
  obtain ⟨bs, hb⟩ := asks_of k0 k3 k4 k5 hr hx
  have e0' : c0 = .int .i64 z0 := by simpa using e0
  have e1' : c1 = .int .i64 z1 := by simpa using e1
  have e2' : c2 = u2 := by simpa using e2
  clear e0 e1 e2 hf hsz hok h
  subst e0' e1' e2'
  exact ⟨z0, z1, c2, bs, rfl, hb⟩
end
end Go.Proofs.YtfgpjelnijeoaaaDoor
