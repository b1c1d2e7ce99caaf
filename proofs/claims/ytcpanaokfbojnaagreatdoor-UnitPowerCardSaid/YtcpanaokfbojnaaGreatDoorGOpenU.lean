/- Arguments opened: a slice of acts on units that came in. It speaks of no law. -/
import Derived.Test.YtcpanaokfbojnaaGreatDoorGUmod
import Derived.Test.YtcpanaokfbojnaaGreatDoorGUlA
namespace Go.Proofs.YtcpanaokfbojnaaGreatDoor
open Go Go.ChangeShapes Go.WideShapes Go.ChangeAt Go.RowKit Go.Deep Tide

theorem pick_acts {α β : Type} {f : α → β} {P : α → Prop} : ∀ es : List β, (∀ x ∈ es, ∃ d, x = f d ∧ P d) → ∃ ds : List α, es = ds.map f ∧ ∀ d ∈ ds, P d
  | [], _ => ⟨[], rfl, fun d h => by cases h⟩
  | x :: es, h => by
    obtain ⟨d, hd, hp⟩ := h x (by simp)
    obtain ⟨ds, hl, hq⟩ := pick_acts es (fun y hy => h y (by simp [hy]))
    refine ⟨d :: ds, by rw [hd, hl]; rfl, fun y hy => ?_⟩
    rcases List.mem_cons.1 hy with rfl | hy
    · exact hp
    · exact hq y hy
theorem five_of {x : List Value} {a b c d e : Value} (hl : x.length = 5) (h0 : x[0]? = some a) (h1 : x[1]? = some b) (h2 : x[2]? = some c) (h3 : x[3]? = some d) (h4 : x[4]? = some e) : x = [a, b, c, d, e] := by
  match x, hl with
  | [p, q, r, s, t], _ => simp at h0 h1 h2 h3 h4; subst h0 h1 h2 h3 h4; rfl
section
variable {H : Type} {enc : TypeId × Value → H} {P : Program} {W : World}
theorem open_byte {t : TypeId} {u : Value} {n : Nat} {y : DataW H × List MemPlace} (ht : P.underlying t = some (.int .u8)) (h : DataW.trod enc P W 0 (fun _ => true) true n t [u] = some y) : ∃ c : UInt8, u = .int .u8 (c.toNat : Int) := by
  obtain ⟨z, hz, _, hw⟩ := DataW.trod_int ht h
  have hb : 0 ≤ z ∧ z ≤ 255 := by
    have h1 := hw
    simp only [Lit.wf, IntKind.min, IntKind.max, IntKind.signed, IntKind.bits, Bool.and_eq_true] at h1
    simp at h1
    omega
  refine ⟨UInt8.ofNat z.toNat, ?_⟩
  have e : (UInt8.ofNat z.toNat).toNat = z.toNat := by simp; omega
  have hu : u = .int .u8 z := by simpa using hz
  rw [hu, e, Int.toNat_of_nonneg hb.1]
theorem open_actsU {t e : TypeId} {f0 f1 f2 f3 f4 : Field} {v : Value} {d : DataW H} {p : List MemPlace} (ht : P.underlying t = some (.slice e)) (he : P.underlying e = some (.struct #[f0, f1, f2, f3, f4])) (hone : oneCellFields P #[f0, f1, f2, f3, f4] = true) (hC : P.cellsOf e = 5)
    (k0 : P.underlying f0.type = some (.int .i64)) (k1 : P.underlying f1.type = some (.int .i64)) (k2 : P.underlying f2.type = some (.int .i64)) (k3 : P.underlying f3.type = some (.int .i64)) (k4 : P.underlying f4.type = some (.int .u8))
    {base : Nat} (hok : Value.okWide P W .any base t v) (h : DataW.Trod enc P W 0 (fun _ => true) true t v d p) : ∃ ks, ActsU W W.heap.size v ks := by
  obtain ⟨es, hr, hx⟩ := open_recs ht he hone hC (by simp) hok h
  obtain ⟨ks, hks, hz⟩ := pick_acts (f := fun k : ActU => k.cells.toList) (P := fun _ : ActU => True) es (fun x hxm => by
    obtain ⟨hlen, hf⟩ := hx x hxm
    obtain ⟨u0, n0, y0, g0, t0⟩ := hf 0 f0 rfl
    obtain ⟨u1, n1, y1, g1, t1⟩ := hf 1 f1 rfl
    obtain ⟨u2, n2, y2, g2, t2⟩ := hf 2 f2 rfl
    obtain ⟨u3, n3, y3, g3, t3⟩ := hf 3 f3 rfl
    obtain ⟨u4, n4, y4, g4, t4⟩ := hf 4 f4 rfl
    obtain ⟨z0, rfl, _, _⟩ := open_int64 k0 t0
    obtain ⟨z1, rfl, _, _⟩ := open_int64 k1 t1
    obtain ⟨z2, rfl, _, _⟩ := open_int64 k2 t2
    obtain ⟨z3, rfl, _, _⟩ := open_int64 k3 t3
    obtain ⟨c, rfl⟩ := open_byte k4 t4
    exact ⟨⟨z0, z1, z2, z3, c⟩, five_of hlen g0 g1 g2 g3 g4, trivial⟩)
  subst hks
  exact ⟨ks, hr⟩
end
end Go.Proofs.YtcpanaokfbojnaaGreatDoor

/- Arguments opened: what is lost at a loss of power, a struct by value; how long a slice that came in is. It speaks of no law. -/
namespace Go.Proofs.YtcpanaokfbojnaaGreatDoor
open Go Go.ChangeShapes Go.WideShapes Go.ChangeAt Go.RowKit Go.Deep Tide

section
variable {H : Type} {enc : TypeId × Value → H} {P : Program} {W : World}
theorem open_aggsP {base b0 : Nat} {spare : Nat → Bool} {held : Bool} {r : Reach} {t : TypeId} {fs : Array Field} {v : Value} {d : DataW H} {p : List MemPlace} (hs : P.underlying t = some (.struct fs)) (hone : oneCellFields P fs = true) (hC : P.cellsOf t = fs.size)
    (hv : Value.okWide P W r b0 t v) (h : DataW.Trod enc P W base spare held t v d p) :
    ∃ cs : Array Value, v = .agg cs ∧ cs.size = fs.size ∧ ∀ (j : Nat) (f : Field), fs[j]? = some f → ∃ (u : Value) (n : Nat) (y : DataW H × List MemPlace), cs[j]? = some u ∧ DataW.trod enc P W base spare held n f.type [u] = some y := by
  obtain ⟨cs, rfl, hsz⟩ := okWide_struct hs hv
  obtain ⟨fuel, hf⟩ := h
  have hc : (Value.agg cs).cells.toList = cs.toList := by simp [Value.cells]
  rw [hc] at hf
  obtain ⟨xs, n', _, _, _, hxl, hfs⟩ := DataW.trod_struct hs hf
  refine ⟨cs, rfl, hsz.trans hC, fun j f hj => ?_⟩
  obtain ⟨ho, hk⟩ := hone_of hone j f hj
  have hjl : j < fs.size := (Array.getElem?_eq_some_iff.1 hj).1
  have hjc : j < cs.size := by rw [hsz, hC]; exact hjl
  have h3 := hfs j f hj
  rw [ho, hk, List.drop_eq_getElem_cons (by simpa using hjc)] at h3
  refine ⟨cs[j], n', xs[j]'(by omega), Array.getElem?_eq_getElem hjc, ?_⟩
  rw [List.getElem?_eq_getElem (by omega)] at h3
  simpa using h3
theorem open_u64 {t : TypeId} {u : Value} {n : Nat} {y : DataW H × List MemPlace} (ht : P.underlying t = some (.int .u64)) (h : DataW.trod enc P W 0 (fun _ => true) true n t [u] = some y) : ∃ z : Int, u = .int .u64 z := by
  obtain ⟨z, hz, _, _⟩ := DataW.trod_int ht h
  exact ⟨z, by simpa using hz⟩
theorem open_room {t e : TypeId} {v : Value} {d : DataW H} {p : List MemPlace} (ht : P.underlying t = some (.slice e)) {base : Nat} (hok : Value.okWide P W .any base t v) (h : DataW.Trod enc P W 0 (fun _ => true) true t v d p) : ∀ A n c, v = .slice A n c → n ≤ c := by
  obtain ⟨a0, len0, cap0, rfl⟩ := okWide_slice ht hok
  obtain ⟨fuel, hf⟩ := h
  intro A n c he
  injection he with e1 e2 e3
  subst e1 e2 e3
  rcases open_slice ht hf with ⟨hcs, _⟩ | ⟨a, len, cap, m, n', D, Pl, hcs, _, hl, hm, hmm, _, hx⟩
  · have : Value.slice a0 len0 cap0 = .slice none 0 0 := by simpa [Value.cells] using hcs
    injection this with _ h2 h3
    omega
  · have : Value.slice a0 len0 cap0 = .slice (some a) len cap := by simpa [Value.cells] using hcs
    injection this with _ h2 h3
    omega
theorem open_loss {t : TypeId} {f0 f1 f2 f3 : Field} {v : Value} {d : DataW H} {p : List MemPlace} (hs : P.underlying t = some (.struct #[f0, f1, f2, f3])) (hone : oneCellFields P #[f0, f1, f2, f3] = true) (hC : P.cellsOf t = 4)
    (k0 : P.underlying f0.type = some (.int .i64)) (k1 : P.underlying f1.type = some (.int .u64)) (k2 : P.underlying f2.type = some (.int .i64)) (k3 : P.underlying f3.type = some (.int .i64))
    {b0 : Nat} (hv : Value.okWide P W .any b0 t v) (h : DataW.Trod enc P W 0 (fun _ => true) true t v d p) : ∃ af kv torn cut : Int, v = .agg #[.int .i64 af, .int .u64 kv, .int .i64 torn, .int .i64 cut] ∧ af ≤ 9223372036854775807 := by
  obtain ⟨cs, rfl, hsz, hf⟩ := open_aggsP hs hone hC hv h
  obtain ⟨u0, n0, y0, g0, t0⟩ := hf 0 f0 rfl
  obtain ⟨u1, n1, y1, g1, t1⟩ := hf 1 f1 rfl
  obtain ⟨u2, n2, y2, g2, t2⟩ := hf 2 f2 rfl
  obtain ⟨u3, n3, y3, g3, t3⟩ := hf 3 f3 rfl
  obtain ⟨z0, rfl, _, hz⟩ := open_int64 k0 t0
  obtain ⟨z1, rfl⟩ := open_u64 k1 t1
  obtain ⟨z2, rfl, _, _⟩ := open_int64 k2 t2
  obtain ⟨z3, rfl, _, _⟩ := open_int64 k3 t3
  refine ⟨z0, z1, z2, z3, ?_, hz⟩
  have hl : cs.size = 4 := hsz
  have : cs = #[.int .i64 z0, .int .u64 z1, .int .i64 z2, .int .i64 z3] := by
    apply Array.ext_getElem?
    intro j
    rcases (show j = 0 ∨ j = 1 ∨ j = 2 ∨ j = 3 ∨ 4 ≤ j by omega) with rfl | rfl | rfl | rfl | hj
    · rw [g0]; rfl
    · rw [g1]; rfl
    · rw [g2]; rfl
    · rw [g3]; rfl
    · rw [Array.getElem?_eq_none (by omega), Array.getElem?_eq_none (by simpa using hj)]
  rw [this]
end
end Go.Proofs.YtcpanaokfbojnaaGreatDoor
