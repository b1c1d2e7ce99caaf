/- Arguments opened: a slice of acts (numbers and a byte) that came in. It speaks of no law. -/
import Derived.Test.YtcjneloelbgboaaDoorDkF
namespace Go.Proofs.YtcjneloelbgboaaDoor
open Go Go.ChangeShapes Go.WideShapes Go.ChangeAt Go.RowKit Go.Deep Tide

theorem pick_acts {α β : Type} {f : α → β} {P : α → Prop} : ∀ es : List β, (∀ x ∈ es, ∃ d, x = f d ∧ P d) → ∃ ds : List α, es = ds.map f ∧ ∀ d ∈ ds, P d
  | [], _ => ⟨[], rfl, fun d h => by cases h⟩
  | x :: es, h => by
    obtain ⟨d, hd, hp⟩ := h x (by simp)
    obtain ⟨ds, hl, hq⟩ := pick_acts es (fun y hy => h y (by simp [hy]))
    refine ⟨d :: ds, by rw [hd, hl]; rfl, fun y hy => ?_⟩
    rcases List.mem_cons.1 hy with rfl | hy
    · exact hp
    · exact hq y hy
theorem seven_of {x : List Value} {a b c d e f g : Value} (hl : x.length = 7) (h0 : x[0]? = some a) (h1 : x[1]? = some b) (h2 : x[2]? = some c) (h3 : x[3]? = some d) (h4 : x[4]? = some e) (h5 : x[5]? = some f) (h6 : x[6]? = some g) : x = [a, b, c, d, e, f, g] := by
  match x, hl with
  | [p, q, r, s, t, u, v], _ => simp at h0 h1 h2 h3 h4 h5 h6; subst h0 h1 h2 h3 h4 h5 h6; rfl
section
variable {H : Type} {enc : TypeId × Value → H} {P : Program} {W : World}
theorem open_byte {t : TypeId} {u : Value} {n : Nat} {y : DataW H × List MemPlace} (ht : P.underlying t = some (.int .u8)) (h : DataW.trod enc P W 0 (fun _ => true) true n t [u] = some y) : ∃ c : UInt8, u = .int .u8 (c.toNat : Int) := by
  obtain ⟨z, hz, _, hw⟩ := DataW.trod_int ht h
  have hb : 0 ≤ z ∧ z ≤ 255 := by
    have h1 := hw
    simp only [Lit.wf, IntKind.min, IntKind.max, IntKind.signed, IntKind.bits, Bool.and_eq_true] at h1
    simp at h1
    omega
  refine ⟨UInt8.ofNat z.toNat, ?_⟩
  have e : (UInt8.ofNat z.toNat).toNat = z.toNat := by simp; omega
  have hu : u = .int .u8 z := by simpa using hz
  rw [hu, e, Int.toNat_of_nonneg hb.1]
theorem open_u64 {t : TypeId} {u : Value} {n : Nat} {y : DataW H × List MemPlace} (ht : P.underlying t = some (.int .u64)) (h : DataW.trod enc P W 0 (fun _ => true) true n t [u] = some y) : ∃ z, u = .int .u64 z := by
  obtain ⟨z, hz, _, _⟩ := DataW.trod_int ht h
  exact ⟨z, by simpa using hz⟩
theorem open_acts {t e : TypeId} {f0 f1 f2 f3 f4 f5 f6 : Field} {v : Value} {d : DataW H} {p : List MemPlace} (ht : P.underlying t = some (.slice e)) (he : P.underlying e = some (.struct #[f0, f1, f2, f3, f4, f5, f6])) (hone : oneCellFields P #[f0, f1, f2, f3, f4, f5, f6] = true) (hC : P.cellsOf e = 7)
    (k0 : P.underlying f0.type = some (.int .i64)) (k1 : P.underlying f1.type = some (.int .i64)) (k2 : P.underlying f2.type = some (.int .i64)) (k3 : P.underlying f3.type = some (.int .u8)) (k4 : P.underlying f4.type = some (.int .u64)) (k5 : P.underlying f5.type = some (.int .i64)) (k6 : P.underlying f6.type = some (.int .i64))
    {base : Nat} (hok : Value.okWide P W .any base t v) (h : DataW.Trod enc P W 0 (fun _ => true) true t v d p) : ∃ ks, Acts W W.heap.size v ks := by
  obtain ⟨es, hr, hx⟩ := open_recs ht he hone hC (by simp) hok h
  obtain ⟨ks, hks, hz⟩ := pick_acts (f := actV) (P := fun k : ActD => -9223372036854775808 ≤ k.sec ∧ k.sec ≤ 9223372036854775807) es (fun x hxm => by
    obtain ⟨hlen, hf⟩ := hx x hxm
    obtain ⟨u0, n0, y0, g0, t0⟩ := hf 0 f0 rfl
    obtain ⟨u1, n1, y1, g1, t1⟩ := hf 1 f1 rfl
    obtain ⟨u2, n2, y2, g2, t2⟩ := hf 2 f2 rfl
    obtain ⟨u3, n3, y3, g3, t3⟩ := hf 3 f3 rfl
    obtain ⟨u4, n4, y4, g4, t4⟩ := hf 4 f4 rfl
    obtain ⟨u5, n5, y5, g5, t5⟩ := hf 5 f5 rfl
    obtain ⟨u6, n6, y6, g6, t6⟩ := hf 6 f6 rfl
    obtain ⟨z0, rfl, _, _⟩ := open_int64 k0 t0
    obtain ⟨z1, rfl, b1, b2⟩ := open_int64 k1 t1
    obtain ⟨z2, rfl, _, _⟩ := open_int64 k2 t2
    obtain ⟨c, rfl⟩ := open_byte k3 t3
    obtain ⟨z4, rfl⟩ := open_u64 k4 t4
    obtain ⟨z5, rfl, _, _⟩ := open_int64 k5 t5
    obtain ⟨z6, rfl, _, _⟩ := open_int64 k6 t6
    exact ⟨⟨z0, z1, z2, c, z4, z5, z6⟩, seven_of hlen g0 g1 g2 g3 g4 g5 g6, b1, b2⟩)
  subst hks
  exact ⟨ks, hr, hz⟩
end
end Go.Proofs.YtcjneloelbgboaaDoor
