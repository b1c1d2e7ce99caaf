/- Arguments opened: a slice of items (two numbers, a text, a list), and a slice of asks (three numbers). They speak of no law. -/
import Derived.Test.YtcmihmilkcihcaaDoorPackRL
import Derived.Test.YtcmihmilkcihcaaDoorStopsL
namespace Go.Proofs.YtcmihmilkcihcaaDoor
open Go Go.ChangeShapes Go.WideShapes Go.ChangeAt Go.RowKit Go.Deep Tide

theorem pick_all {α β : Type} {R : α → β → Prop} : ∀ es : List β, (∀ x ∈ es, ∃ d, R d x) → ∃ ds : List α, es.length = ds.length ∧ ∀ i (h : i < ds.length), ∃ e, es[i]? = some e ∧ R ds[i] e
  | [], _ => ⟨[], rfl, fun i h => by simp at h⟩
  | x :: es, h => by
    obtain ⟨d, hd⟩ := h x (by simp)
    obtain ⟨ds, hl, hr⟩ := pick_all es (fun y hy => h y (by simp [hy]))
    refine ⟨d :: ds, by simp [hl], fun i hi => ?_⟩
    rcases i with _ | i
    · exact ⟨x, rfl, hd⟩
    · exact hr i (by simpa using hi)
theorem pick_map {α β : Type} {f : α → β} : ∀ es : List β, (∀ x ∈ es, ∃ d, x = f d) → ∃ ds : List α, es = ds.map f
  | [], _ => ⟨[], rfl⟩
  | x :: es, h => by
    obtain ⟨d, hd⟩ := h x (by simp)
    obtain ⟨ds, hl⟩ := pick_map es (fun y hy => h y (by simp [hy]))
    exact ⟨d :: ds, by rw [hd, hl]; rfl⟩
theorem four {x : List Value} {a b c d : Value} (hl : x.length = 4) (h0 : x[0]? = some a) (h1 : x[1]? = some b) (h2 : x[2]? = some c) (h3 : x[3]? = some d) : x = [a, b, c, d] := by
  match x, hl with
  | [p, q, r, s], _ => simp at h0 h1 h2 h3; subst h0 h1 h2 h3; rfl
theorem three_of {x : List Value} {a b c : Value} (hl : x.length = 3) (h0 : x[0]? = some a) (h1 : x[1]? = some b) (h2 : x[2]? = some c) : x = [a, b, c] := by
  match x, hl with
  | [p, q, r], _ => simp at h0 h1 h2; subst h0 h1 h2; rfl

section
variable {H : Type} {enc : TypeId × Value → H} {P : Program} {W : World}
theorem open_items {t e e3 : TypeId} {f0 f1 f2 f3 : Field} {v : Value} {d : DataW H} {p : List MemPlace} (ht : P.underlying t = some (.slice e)) (he : P.underlying e = some (.struct #[f0, f1, f2, f3])) (hone : oneCellFields P #[f0, f1, f2, f3] = true) (hC : P.cellsOf e = 4)
    (k0 : P.underlying f0.type = some (.int .i64)) (k1 : P.underlying f1.type = some (.int .i64)) (k2 : P.underlying f2.type = some .string) (k3 : P.underlying f3.type = some (.slice e3)) (k4 : P.underlying e3 = some (.int .i64)) (k5 : P.cellsOf e3 = 1)
    {base : Nat} (hok : Value.okWide P W .any base t v) (h : DataW.Trod enc P W 0 (fun _ => true) true t v d p) : ∃ ds, Items W W.heap.size v ds := by
  obtain ⟨es, hr, hx⟩ := open_recs ht he hone hC (by simp) hok h
  obtain ⟨ds, hl, hds⟩ := pick_all (R := ItemIs W W.heap.size) es (fun x hxm => by
    obtain ⟨hlen, hf⟩ := hx x hxm
    obtain ⟨u0, n0, y0, g0, t0⟩ := hf 0 f0 rfl
    obtain ⟨u1, n1, y1, g1, t1⟩ := hf 1 f1 rfl
    obtain ⟨u2, n2, y2, g2, t2⟩ := hf 2 f2 rfl
    obtain ⟨u3, n3, y3, g3, t3⟩ := hf 3 f3 rfl
    obtain ⟨z0, rfl, _, _⟩ := open_int64 k0 t0
    obtain ⟨z1, rfl, b1, b2⟩ := open_int64 k1 t1
    obtain ⟨s, rfl⟩ := open_text k2 t2
    obtain ⟨zs, hrow, hz⟩ := open_int64s k3 k4 k5 t3
    exact ⟨⟨z0, z1, s, zs⟩, u3, four hlen g0 g1 g2 g3, hrow, hz, b1, b2⟩)
  exact ⟨ds, es, hr, hl, hds⟩
theorem open_asks {t e : TypeId} {f0 f1 f2 : Field} {v : Value} {d : DataW H} {p : List MemPlace} (ht : P.underlying t = some (.slice e)) (he : P.underlying e = some (.struct #[f0, f1, f2])) (hone : oneCellFields P #[f0, f1, f2] = true) (hC : P.cellsOf e = 3)
    (k0 : P.underlying f0.type = some (.int .i64)) (k1 : P.underlying f1.type = some (.int .i64)) (k2 : P.underlying f2.type = some (.int .i64))
    {base : Nat} (hok : Value.okWide P W .any base t v) (h : DataW.Trod enc P W 0 (fun _ => true) true t v d p) : ∃ ks, Asks W W.heap.size v ks := by
  obtain ⟨es, hr, hx⟩ := open_recs ht he hone hC (by simp) hok h
  obtain ⟨ks, hks⟩ := pick_map (f := fun k : Int × Int × Int => [Value.int .i64 k.1, .int .i64 k.2.1, .int .i64 k.2.2]) es (fun x hxm => by
    obtain ⟨hlen, hf⟩ := hx x hxm
    obtain ⟨u0, n0, y0, g0, t0⟩ := hf 0 f0 rfl
    obtain ⟨u1, n1, y1, g1, t1⟩ := hf 1 f1 rfl
    obtain ⟨u2, n2, y2, g2, t2⟩ := hf 2 f2 rfl
    obtain ⟨z0, rfl, _, _⟩ := open_int64 k0 t0
    obtain ⟨z1, rfl, _, _⟩ := open_int64 k1 t1
    obtain ⟨z2, rfl, _, _⟩ := open_int64 k2 t2
    exact ⟨(z0, z1, z2), three_of hlen g0 g1 g2⟩)
  subst hks
  exact ⟨ks, hr⟩
end
end Go.Proofs.YtcmihmilkcihcaaDoor
