/- Arguments opened: a slice of moves that came in. It speaks of no law. -/
import Derived.Test.YtidgpnanbbkakaaDoorOpen
import Derived.Test.YtidgpnanbbkakaaDoorVtX
namespace Go.Proofs.YtidgpnanbbkakaaDoor
open Go Go.ChangeShapes Go.WideShapes Go.ChangeAt Go.RowKit Go.Deep Tide

theorem pick_moves {α β : Type} {f : α → β} : ∀ es : List β, (∀ x ∈ es, ∃ d, x = f d) → ∃ ds : List α, es = ds.map f
  | [], _ => ⟨[], rfl⟩
  | x :: es, h => by
    obtain ⟨d, hd⟩ := h x (by simp)
    obtain ⟨ds, hl⟩ := pick_moves es (fun y hy => h y (by simp [hy]))
    exact ⟨d :: ds, by rw [hd, hl]; rfl⟩
theorem four_of {x : List Value} {a b c d : Value} (hl : x.length = 4) (h0 : x[0]? = some a) (h1 : x[1]? = some b) (h2 : x[2]? = some c) (h3 : x[3]? = some d) : x = [a, b, c, d] := by
  match x, hl with
  | [p, q, r, s], _ => simp at h0 h1 h2 h3; subst h0 h1 h2 h3; rfl
section
variable {H : Type} {enc : TypeId × Value → H} {P : Program} {W : World}
theorem open_yes {t : TypeId} {u : Value} {n : Nat} {y : DataW H × List MemPlace} (ht : P.underlying t = some .bool) (h : DataW.trod enc P W 0 (fun _ => true) true n t [u] = some y) : ∃ b, u = .bool b := by
  obtain ⟨b, hb, _⟩ := DataW.trod_bool ht h
  exact ⟨b, by simpa using hb⟩
theorem open_moves {t e : TypeId} {f0 f1 f2 f3 : Field} {v : Value} {d : DataW H} {p : List MemPlace} (ht : P.underlying t = some (.slice e)) (he : P.underlying e = some (.struct #[f0, f1, f2, f3])) (hone : oneCellFields P #[f0, f1, f2, f3] = true) (hC : P.cellsOf e = 4)
    (k0 : P.underlying f0.type = some (.int .i64)) (k1 : P.underlying f1.type = some (.int .i64)) (k2 : P.underlying f2.type = some .bool) (k3 : P.underlying f3.type = some .bool)
    {base : Nat} (hok : Value.okWide P W .any base t v) (h : DataW.Trod enc P W 0 (fun _ => true) true t v d p) : ∃ ks, MovesV W W.heap.size v ks := by
  obtain ⟨es, hr, hx⟩ := open_recs ht he hone hC (by simp) hok h
  obtain ⟨ks, hks⟩ := pick_moves (f := fun k : MoveV => k.cells.toList) es (fun x hxm => by
    obtain ⟨hlen, hf⟩ := hx x hxm
    obtain ⟨u0, n0, y0, g0, t0⟩ := hf 0 f0 rfl
    obtain ⟨u1, n1, y1, g1, t1⟩ := hf 1 f1 rfl
    obtain ⟨u2, n2, y2, g2, t2⟩ := hf 2 f2 rfl
    obtain ⟨u3, n3, y3, g3, t3⟩ := hf 3 f3 rfl
    obtain ⟨z0, rfl, _, _⟩ := open_int64 k0 t0
    obtain ⟨z1, rfl, _, _⟩ := open_int64 k1 t1
    obtain ⟨b2, rfl⟩ := open_yes k2 t2
    obtain ⟨b3, rfl⟩ := open_yes k3 t3
    exact ⟨⟨z0, z1, b2, b3⟩, four_of hlen g0 g1 g2 g3⟩)
  subst hks
  exact ⟨ks, hr⟩
end
end Go.Proofs.YtidgpnanbbkakaaDoor
