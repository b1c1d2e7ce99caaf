/- Arguments opened: a slice of backs (a number and a list of numbers each) that came in. It speaks of no law. -/
import Derived.Test.YtcddgllckadodaaDoorGPgD
import Derived.Test.YtcddgllckadodaaDoorGOpenE
namespace Go.Proofs.YtcddgllckadodaaDoor
open Go Go.ChangeShapes Go.WideShapes Go.ChangeAt Go.RowKit Go.Deep Tide

theorem pick_backs {α β : Type} {R : α → β → Prop} : ∀ es : List β, (∀ x ∈ es, ∃ d, R d x) → ∃ ds : List α, es.length = ds.length ∧ ∀ i (h : i < ds.length), ∃ e, es[i]? = some e ∧ R ds[i] e
  | [], _ => ⟨[], rfl, fun i h => by simp at h⟩
  | x :: es, h => by
    obtain ⟨d, hd⟩ := h x (by simp)
    obtain ⟨ds, hl, hr⟩ := pick_backs es (fun y hy => h y (by simp [hy]))
    refine ⟨d :: ds, by simp [hl], fun i hi => ?_⟩
    rcases i with _ | i
    · exact ⟨x, rfl, hd⟩
    · exact hr i (by simpa using hi)
theorem two_of {x : List Value} {a b : Value} (hl : x.length = 2) (h0 : x[0]? = some a) (h1 : x[1]? = some b) : x = [a, b] := by
  match x, hl with
  | [p, q], _ => simp at h0 h1; subst h0 h1; rfl
section
variable {H : Type} {enc : TypeId × Value → H} {P : Program} {W : World}
theorem open_backs {t e e3 : TypeId} {f0 f1 : Field} {v : Value} {d : DataW H} {p : List MemPlace} (ht : P.underlying t = some (.slice e)) (he : P.underlying e = some (.struct #[f0, f1])) (hone : oneCellFields P #[f0, f1] = true) (hC : P.cellsOf e = 2)
    (k0 : P.underlying f0.type = some (.int .i64)) (k3 : P.underlying f1.type = some (.slice e3)) (k4 : P.underlying e3 = some (.int .i64)) (k5 : P.cellsOf e3 = 1)
    {base : Nat} (hok : Value.okWide P W .any base t v) (h : DataW.Trod enc P W 0 (fun _ => true) true t v d p) : ∃ ds, Backs W W.heap.size v ds := by
  obtain ⟨es, hr, hx⟩ := open_recs ht he hone hC (by simp) hok h
  obtain ⟨ds, hl, hds⟩ := pick_backs (R := BackIs W W.heap.size) es (fun x hxm => by
    obtain ⟨hlen, hf⟩ := hx x hxm
    obtain ⟨u0, n0, y0, g0, t0⟩ := hf 0 f0 rfl
    obtain ⟨u1, n1, y1, g1, t1⟩ := hf 1 f1 rfl
    obtain ⟨z0, rfl, _, _⟩ := open_int64 k0 t0
    obtain ⟨zs, hrow, _⟩ := open_int64s k3 k4 k5 t1
    exact ⟨⟨z0, zs⟩, u1, two_of hlen g0 g1, hrow⟩)
  exact ⟨ds, es, hr, hl, hds⟩
end
end Go.Proofs.YtcddgllckadodaaDoor
