/- Arguments opened: a slice of acts on units that came in. It speaks of no law. -/
import Derived.Test.YtbhohlefgkcdmaaGreatDoorGUmod
import Derived.Test.YtbhohlefgkcdmaaGreatDoorGUlA
namespace Go.Proofs.YtbhohlefgkcdmaaGreatDoor
open Go Go.ChangeShapes Go.WideShapes Go.ChangeAt Go.RowKit Go.Deep Tide

theorem pick_acts {α β : Type} {f : α → β} {P : α → Prop} : ∀ es : List β, (∀ x ∈ es, ∃ d, x = f d ∧ P d) → ∃ ds : List α, es = ds.map f ∧ ∀ d ∈ ds, P d
  | [], _ => ⟨[], rfl, fun d h => by cases h⟩
  | x :: es, h => by
    obtain ⟨d, hd, hp⟩ := h x (by simp)
    obtain ⟨ds, hl, hq⟩ := pick_acts es (fun y hy => h y (by simp [hy]))
    refine ⟨d :: ds, by rw [hd, hl]; rfl, fun y hy => ?_⟩
    rcases List.mem_cons.1 hy with rfl | hy
    · exact hp
    · exact hq y hy
theorem five_of {x : List Value} {a b c d e : Value} (hl : x.length = 5) (h0 : x[0]? = some a) (h1 : x[1]? = some b) (h2 : x[2]? = some c) (h3 : x[3]? = some d) (h4 : x[4]? = some e) : x = [a, b, c, d, e] := by
  match x, hl with
  | [p, q, r, s, t], _ => simp at h0 h1 h2 h3 h4; subst h0 h1 h2 h3 h4; rfl
section
variable {H : Type} {enc : TypeId × Value → H} {P : Program} {W : World}
theorem open_byte {t : TypeId} {u : Value} {n : Nat} {y : DataW H × List MemPlace} (ht : P.underlying t = some (.int .u8)) (h : DataW.trod enc P W 0 (fun _ => true) true n t [u] = some y) : ∃ c : UInt8, u = .int .u8 (c.toNat : Int) := by
  obtain ⟨z, hz, _, hw⟩ := DataW.trod_int ht h
  have hb : 0 ≤ z ∧ z ≤ 255 := by
    have h1 := hw
    simp only [Lit.wf, IntKind.min, IntKind.max, IntKind.signed, IntKind.bits, Bool.and_eq_true] at h1
    simp at h1
    omega
  refine ⟨UInt8.ofNat z.toNat, ?_⟩
  have e : (UInt8.ofNat z.toNat).toNat = z.toNat := by simp; omega
  have hu : u = .int .u8 z := by simpa using hz
  rw [hu, e, Int.toNat_of_nonneg hb.1]
theorem open_actsU {t e : TypeId} {f0 f1 f2 f3 f4 : Field} {v : Value} {d : DataW H} {p : List MemPlace} (ht : P.underlying t = some (.slice e)) (he : P.underlying e = some (.struct #[f0, f1, f2, f3, f4])) (hone : oneCellFields P #[f0, f1, f2, f3, f4] = true) (hC : P.cellsOf e = 5)
    (k0 : P.underlying f0.type = some (.int .i64)) (k1 : P.underlying f1.type = some (.int .i64)) (k2 : P.underlying f2.type = some (.int .i64)) (k3 : P.underlying f3.type = some (.int .i64)) (k4 : P.underlying f4.type = some (.int .u8))
    {base : Nat} (hok : Value.okWide P W .any base t v) (h : DataW.Trod enc P W 0 (fun _ => true) true t v d p) : ∃ ks, ActsU W W.heap.size v ks := by
  obtain ⟨es, hr, hx⟩ := open_recs ht he hone hC (by simp) hok h
  obtain ⟨ks, hks, hz⟩ := pick_acts (f := fun k : ActU => k.cells.toList) (P := fun _ : ActU => True) es (fun x hxm => by
    obtain ⟨hlen, hf⟩ := hx x hxm
    obtain ⟨u0, n0, y0, g0, t0⟩ := hf 0 f0 rfl
    obtain ⟨u1, n1, y1, g1, t1⟩ := hf 1 f1 rfl
    obtain ⟨u2, n2, y2, g2, t2⟩ := hf 2 f2 rfl
    obtain ⟨u3, n3, y3, g3, t3⟩ := hf 3 f3 rfl
    obtain ⟨u4, n4, y4, g4, t4⟩ := hf 4 f4 rfl
    obtain ⟨z0, rfl, _, _⟩ := open_int64 k0 t0
    obtain ⟨z1, rfl, _, _⟩ := open_int64 k1 t1
    obtain ⟨z2, rfl, _, _⟩ := open_int64 k2 t2
    obtain ⟨z3, rfl, _, _⟩ := open_int64 k3 t3
    obtain ⟨c, rfl⟩ := open_byte k4 t4
    exact ⟨⟨z0, z1, z2, z3, c⟩, five_of hlen g0 g1 g2 g3 g4, trivial⟩)
  subst hks
  exact ⟨ks, hr⟩
end
end Go.Proofs.YtbhohlefgkcdmaaGreatDoor
