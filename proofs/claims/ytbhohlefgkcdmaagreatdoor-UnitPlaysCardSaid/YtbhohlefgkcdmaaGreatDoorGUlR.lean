/- A unit and the document's own, side by side: a step of either. -/
import Derived.Test.YtbhohlefgkcdmaaGreatDoorGUlA
import Derived.Test.YtbhohlefgkcdmaaGreatDoorGUrW
import Derived.Test.YtbhohlefgkcdmaaGreatDoorGUiG
namespace Go.Proofs.YtbhohlefgkcdmaaGreatDoor
open Go Go.RowKit Go.Shelf Tide

/-- u on the device, ur the document's own; X0 is what else lies, in FX0. -/
def UR (D : DvP) (w : World) (FX0 : Nat → Prop) (X0 : World → Prop) (dev n N : Nat) (u ur : UnitD) (g q : Nat) (W : World) : Prop :=
  ∃ p bm G S, UL D w (fun k => FX0 k ∨ (G k ∨ S k)) (fun Y => X0 Y ∧ RU Y G S q ur) g p bm dev n N u W ∧ ∀ k, G k ∨ S k → w.heap.size ≤ k ∧ ¬ FX0 k
section
variable {D : DvP} {a : Nat → Addr} {w W W' : World} {FX0 : Nat → Prop} {X0 : World → Prop} {g q dev n N M : Nat} {u ur : UnitD} {G S : Nat → Prop}
theorem stays_two (hX : Stays FX0 X0) : Stays (fun k => FX0 k ∨ (G k ∨ S k)) (fun Y => X0 Y ∧ RU Y G S q ur) := fun Y Y' F h hl hk hf =>
  ⟨hX Y Y' F h.1 (fun k e => hl k (.inl e)) hk (fun k e => hf k (.inl e)), h.2.keep hk (fun k e => hf k (.inr e))⟩
theorem UR.mono (h : UR D w FX0 X0 dev n N u ur g q W) (hNM : N ≤ M) : UR D w FX0 X0 dev n M u ur g q W := by
  obtain ⟨p, bm, G, S, h1, h2⟩ := h
  exact ⟨p, bm, G, S, h1.mono hNM, h2⟩
theorem UR.since (h : UR D w FX0 X0 dev n N u ur g q W) : Below w.heap.size w W := by
  obtain ⟨p, bm, G, S, h1, h2⟩ := h
  exact h1.since
theorem UR.else0 (h : UR D w FX0 X0 dev n N u ur g q W) : X0 W := by
  obtain ⟨p, bm, G, S, h1, h2⟩ := h
  exact h1.else'.1
theorem UR.below (hD : DvSpec (three a) D) (hX : Stays FX0 X0) (h : UR D w FX0 X0 dev n N u ur g q W) (hb : Below W.heap.size W W') : UR D w FX0 X0 dev n N u ur g q W' := by
  obtain ⟨p, bm, G, S, h1, h2⟩ := h
  exact ⟨p, bm, G, S, h1.below hD (stays_two hX) hb, h2⟩
theorem UR.okR (h : UR D w FX0 X0 dev n N u ur g q W) (hn : n ≤ 1000) (hNl : N ≤ 90000) : OkR u := by
  obtain ⟨p, bm, G, S, h1, h2⟩ := h
  exact h1.okR hn hNl
/-- A block more that is to stay. -/
theorem UR.box (hD : DvSpec (three a) D) (hX : Stays FX0 X0) (h : UR D w FX0 X0 dev n N u ur g q W) (o : Obj) : UR D w (fun k => FX0 k ∨ k = W.heap.size) (fun Y => X0 Y ∧ Y.heap[W.heap.size]? = some o) dev n N u ur g q (W.alloc o) := by
  obtain ⟨p, bm, G, S, h1, h2⟩ := h
  have hlt := h1.else'.2.lt
  refine ⟨p, bm, G, S, (h1.box hD (stays_two hX) o).less (fun k hk => ?_) (fun Y hY => ⟨⟨hY.1.1, hY.2⟩, hY.1.2⟩), fun k hk => ⟨(h2 k hk).1, fun e => ?_⟩⟩
  · rcases hk with (hk | hk) | hk
    · exact .inl (.inl hk)
    · exact .inr hk
    · exact .inl (.inr hk)
  · rcases e with e | e
    · exact (h2 k hk).2 e
    · have := hlt k hk; omega
theorem UR.less {FX' : Nat → Prop} {X' : World → Prop} (h : UR D w FX0 X0 dev n N u ur g q W) (hF : ∀ k, FX' k → FX0 k) (hX : ∀ Y, X0 Y → X' Y) : UR D w FX' X' dev n N u ur g q W := by
  obtain ⟨p, bm, G, S, h1, h2⟩ := h
  exact ⟨p, bm, G, S, h1.less (fun k hk => hk.imp (hF k) id) (fun Y hY => ⟨hX Y hY.1, hY.2⟩), fun k hk => ⟨(h2 k hk).1, fun e => (h2 k hk).2 (hF k e)⟩⟩
theorem UR.write (hD : DvSpec (three a) D) (hX : Stays FX0 X0) (hE : Errs w a) (hn : n ≤ 1000) (hNl : N ≤ 90000) (h : UR D w FX0 X0 dev n N u ur g q W) (ep a' : Int) (vb : Value) (b : List UInt8) (hv : Bytes W W.heap.size vb b) :
    Calls Tryz.prog 13 #[.pointer (some ⟨g, 0, none⟩), .int .i64 ep, .int .i64 a', vb] W fun e w' => ∃ x, e = .returned x ∧ IsErr a x (writeD u ep a' b).2 ∧ UR D w FX0 X0 dev n (N + 1) (writeD u ep a' b).1 ur g q w' := by
  obtain ⟨p, bm, G, S, h1, h2⟩ := h
  refine (h1.write hD (stays_two hX) hE hn hNl ep a' vb b hv).mono ?_
  rintro e w' ⟨x, rfl, hx, hU⟩
  exact ⟨x, rfl, hx, p, bm, G, S, hU, h2⟩
theorem UR.seal (hD : DvSpec (three a) D) (hX : Stays FX0 X0) (hE : Errs w a) (hn : n ≤ 1000) (hNl : N ≤ 90000) (h : UR D w FX0 X0 dev n N u ur g q W) (ep : Int) :
    Calls Tryz.prog 18 #[.pointer (some ⟨g, 0, none⟩), .int .i64 ep] W fun e w' => ∃ x, e = .returned (.tuple #[.int .i64 (sealD u ep).2.1, x]) ∧ IsErr a x (sealD u ep).2.2 ∧ UR D w FX0 X0 dev n (N + 1) (sealD u ep).1 ur g q w' := by
  obtain ⟨p, bm, G, S, h1, h2⟩ := h
  refine (h1.seal hD (stays_two hX) hE hn hNl ep).mono ?_
  rintro e w' ⟨x, rfl, hx, hU⟩
  exact ⟨x, rfl, hx, p, bm, G, S, hU, h2⟩
theorem UR.trim (hD : DvSpec (three a) D) (hX : Stays FX0 X0) (hE : Errs w a) (hn : n ≤ 1000) (hNl : N ≤ 90000) (h : UR D w FX0 X0 dev n N u ur g q W) (ep a9 : Int) :
    Calls Tryz.prog 16 #[.pointer (some ⟨g, 0, none⟩), .int .i64 ep, .int .i64 a9] W fun e w' => ∃ x, e = .returned x ∧ IsErr a x (trimD u ep a9).2 ∧ UR D w FX0 X0 dev n (N + 1) (trimD u ep a9).1 ur g q w' := by
  obtain ⟨p, bm, G, S, h1, h2⟩ := h
  refine (h1.trim hD (stays_two hX) hE hn hNl ep a9).mono ?_
  rintro e w' ⟨x, rfl, hx, hU⟩
  exact ⟨x, rfl, hx, p, bm, G, S, hU, h2⟩
theorem UR.read (hD : DvSpec (three a) D) (hX : Stays FX0 X0) (hE : Errs w a) (h : UR D w FX0 X0 dev n N u ur g q W) (ep a' : Int) :
    Calls Tryz.prog 25 #[.pointer (some ⟨g, 0, none⟩), .int .i64 ep, .int .i64 a'] W fun e w' => ∃ v x, e = .returned (.tuple #[v, x]) ∧ Bytes w' w'.heap.size v (readU u ep a').1 ∧ IsErr a x (readU u ep a').2 ∧ Below W.heap.size W w' ∧ UR D w FX0 X0 dev n N u ur g q w' := by
  obtain ⟨p, bm, G, S, h1, h2⟩ := h
  refine (h1.read hD (stays_two hX) hE ep a').mono ?_
  rintro e w' ⟨v, x, rfl, hv, hx, hb, hU⟩
  exact ⟨v, x, rfl, hv, hx, hb, p, bm, G, S, hU, h2⟩
/-- A step of the document's own. -/
theorem UR.step (hD : DvSpec (three a) D) (hX : Stays FX0 X0) {p bm : Nat} (h1 : UL D w (fun k => FX0 k ∨ (G k ∨ S k)) (fun Y => X0 Y ∧ RU Y G S q ur) g p bm dev n N u W) (h2 : ∀ k, G k ∨ S k → w.heap.size ≤ k ∧ ¬ FX0 k)
    {G' S' : Nat → Prop} {v : UnitD} (hr : RU W' G' S' q v) (hG : ∀ k, G' k → G k ∨ W.heap.size ≤ k) (hS : ∀ k, S' k → S k ∨ W.heap.size ≤ k) (hk : Kept G W W') : UR D w FX0 X0 dev n N u v g q W' := by
  have hlt := h1.lt
  have hz := hk.size
  have hz0 := h1.since.size
  refine ⟨p, bm, G', S', h1.swap hD hk (fun k e => ⟨.inr (.inl e), (h2 k (.inl e)).1⟩) (fun k e => ?_) (fun k e => ?_) ⟨hX _ _ _ h1.else'.1 (fun k e => hlt k (.inl e)) hk (fun k e e' => (h2 k (.inl e')).2 e), hr⟩, fun k e => ?_⟩
  · rcases e with e | e | e
    · exact .inl (.inl e)
    · exact (hG k e).imp (fun h => .inr (.inl h)) id
    · exact (hS k e).imp (fun h => .inr (.inr h)) id
  · rcases e with e | e
    · have := hlt k (.inl e); omega
    · exact hr.lt k e
  · have h9 : (G k ∨ S k) ∨ W.heap.size ≤ k := by
      rcases e with e | e
      · exact (hG k e).imp .inl id
      · exact (hS k e).imp .inr id
    rcases h9 with h9 | h9
    · exact h2 k h9
    · exact ⟨by omega, fun e' => by have := hlt k (.inl e'); omega⟩
theorem UR.rwrite (hD : DvSpec (three a) D) (hX : Stays FX0 X0) (hok : OkR ur) (h : UR D w FX0 X0 dev n N u ur g q W) (hb : Below W.heap.size W W') (ep a' : Int) (vb : Value) (b : List UInt8) (hv : W'.ownsRow W.heap.size 5 1 vb b.length (u8s b)) :
    Calls Tryz.prog 15 #[.pointer (some ⟨q, 0, none⟩), .int .i64 ep, .int .i64 a', vb] W' fun e w' => e = .returned (.int .i64 ((writeD ur ep a' b).2 : Nat)) ∧ UR D w FX0 X0 dev n N u (writeD ur ep a' b).1 g q w' := by
  have h' := h.below hD hX hb
  obtain ⟨p, bm, G, S, h1, h2⟩ := h
  have h1' := h1.below hD (stays_two hX) hb
  have hlt := h1.else'.2.lt
  obtain ⟨F, p0, va, vp, vi, rs, hr, hG⟩ := h1'.else'.2
  refine (rwrite_any hr hok.small hok.rows ep a' (Bytes.of_own hv) (fun k e e' => ?_)).mono ?_
  · have := (hv.lt k e).1
    have := hlt k (.inl ((hG k).1 e'))
    omega
  · rintro e w' ⟨he, G', S', g1, g2, g3, g4⟩
    exact ⟨he, UR.step hD hX h1' h2 g1 (fun k e => (g2 k e).imp (hG k).1 id) g3 (g4.mono (fun k _ e => (hG k).1 e))⟩
theorem UR.rtrim (hD : DvSpec (three a) D) (hX : Stays FX0 X0) (hok : OkR ur) (h : UR D w FX0 X0 dev n N u ur g q W) (ep a' : Int) :
    Calls Tryz.prog 17 #[.pointer (some ⟨q, 0, none⟩), .int .i64 ep, .int .i64 a'] W fun e w' => e = .returned (.int .i64 ((trimD ur ep a').2 : Nat)) ∧ UR D w FX0 X0 dev n N u (trimD ur ep a').1 g q w' := by
  obtain ⟨p, bm, G, S, h1, h2⟩ := h
  obtain ⟨F, p0, va, vp, vi, rs, hr, hG⟩ := h1.else'.2
  refine (rtrim_any hr hok.small ep a' hok.rows hok.epoch hok.small2 hok.trims).mono ?_
  rintro e w' ⟨he, G', S', g1, g2, g3, g4⟩
  exact ⟨he, UR.step hD hX h1 h2 g1 (fun k e => (g2 k e).imp (hG k).1 id) g3 (g4.mono (fun k _ e => (hG k).1 e))⟩
theorem UR.rseal (hD : DvSpec (three a) D) (hX : Stays FX0 X0) (hok : OkR ur) (h : UR D w FX0 X0 dev n N u ur g q W) (ep : Int) :
    Calls Tryz.prog 19 #[.pointer (some ⟨q, 0, none⟩), .int .i64 ep] W fun e w' => e = .returned (.tuple #[.int .i64 (sealD ur ep).2.1, .int .i64 ((sealD ur ep).2.2 : Nat)]) ∧ UR D w FX0 X0 dev n N u (sealD ur ep).1 g q w' := by
  obtain ⟨p, bm, G, S, h1, h2⟩ := h
  obtain ⟨F, p0, va, vp, vi, rs, hr, hG⟩ := h1.else'.2
  refine (rseal_any hr hok.small ep).mono ?_
  rintro e w' ⟨k, he, hk, _, G', S', g1, g2, g3, g4⟩
  exact ⟨by rw [he, hk], UR.step hD hX h1 h2 g1 (fun k e => (g2 k e).imp (hG k).1 id) g3 (g4.mono (fun k _ e => (hG k).1 e))⟩
theorem UR.rread (hD : DvSpec (three a) D) (hX : Stays FX0 X0) (hok : OkR ur) (h : UR D w FX0 X0 dev n N u ur g q W) (ep a' : Int) :
    Calls Tryz.prog 28 #[.pointer (some ⟨q, 0, none⟩), .int .i64 ep, .int .i64 a'] W fun e w' => ∃ v, e = .returned (.tuple #[v, .int .i64 ((readU ur ep a').2 : Nat)]) ∧ Bytes w' w'.heap.size v (readU ur ep a').1 ∧ Below W.heap.size W w' ∧ UR D w FX0 X0 dev n N u ur g q w' := by
  have h0 := h
  obtain ⟨p, bm, G, S, h1, h2⟩ := h
  obtain ⟨F, p0, va, vp, vi, rs, hr, hG⟩ := h1.else'.2
  refine (refread_any hr hok.bytes ep a').mono ?_
  rintro e w' ⟨v, he, hv, hb⟩
  exact ⟨v, he, hv, hb, h0.below hD hX hb⟩
/-- What the law reads of the document's own. -/
theorem UR.rfacts (h : UR D w FX0 X0 dev n N u ur g q W) : ∃ p0 b0 c0, q < W.heap.size ∧ p0 < W.heap.size ∧ W.cell? ⟨q, 0, none⟩ = some (.pointer (some ⟨p0, 0, none⟩)) ∧ W.cell? ⟨q, 4, none⟩ = some (.int .i64 (ur.trimmed : Int)) ∧ W.cell? ⟨q, 5, none⟩ = some (.int .i64 (ur.epoch : Int)) ∧ W.cell? ⟨p0, 0, none⟩ = some (.int .i64 (ur.store.places : Int)) ∧ W.cell? ⟨p0, 1, none⟩ = some (.slice b0 ur.store.segs.length c0) := by
  obtain ⟨p, bm, G, S, h1, h2⟩ := h
  obtain ⟨F, p0, va, vp, vi, rs, hr, hG⟩ := h1.else'.2
  obtain ⟨hq, c0, c1, c2, c3, c4, c5, c6, _⟩ := hr.facts
  obtain ⟨gs, vs, hgs, hW⟩ := hr.store
  obtain ⟨hpl, d0, d1, _⟩ := hW.block.facts
  obtain ⟨A, c, rfl, _, _⟩ := hW.vform
  exact ⟨p0, A, c, hq, hpl, c0, c4, c5, d0, by rw [d1, hgs, List.length_map]⟩
theorem UR.rtail (hD : DvSpec (three a) D) (hX : Stays FX0 X0) (h : UR D w FX0 X0 dev n N u ur g q W) :
    Calls Tryz.prog 30 #[.pointer (some ⟨q, 0, none⟩)] W fun e w' => e = .returned (.int .i64 ((max ur.top ur.trimmed : Nat) : Int)) ∧ Below W.heap.size W w' ∧ UR D w FX0 X0 dev n N u ur g q w' := by
  have h0 := h
  obtain ⟨p, bm, G, S, h1, h2⟩ := h
  obtain ⟨F, p0, va, vp, vi, rs, hr, hG⟩ := h1.else'.2
  refine (rtail_any hr).mono ?_
  rintro e w' ⟨he, hb⟩
  exact ⟨he, hb, h0.below hD hX hb⟩
theorem UR.rhas (h : UR D w FX0 X0 dev n N u ur g q W) (a' : Int) :
    Calls Tryz.prog 33 #[.pointer (some ⟨q, 0, none⟩), .int .i64 a'] W fun e w' => e = .returned (.bool (hasD ur a')) ∧ W = w' := by
  obtain ⟨p, bm, G, S, h1, h2⟩ := h
  obtain ⟨F, p0, va, vp, vi, rs, hr, hG⟩ := h1.else'.2
  exact rhas_any hr a'
theorem UR.tail (hD : DvSpec (three a) D) (hX : Stays FX0 X0) (hNl : N ≤ 90000) (h : UR D w FX0 X0 dev n N u ur g q W) :
    Calls Tryz.prog 24 #[.pointer (some ⟨g, 0, none⟩)] W fun e w' => e = .returned (.int .i64 ((max u.top u.trimmed : Nat) : Int)) ∧ Below W.heap.size W w' ∧ UR D w FX0 X0 dev n N u ur g q w' := by
  obtain ⟨p, bm, G, S, h1, h2⟩ := h
  refine (h1.tail hD (stays_two hX) hNl).mono ?_
  rintro e w' ⟨he, hb, hU⟩
  exact ⟨he, hb, p, bm, G, S, hU, h2⟩
theorem UR.epoch (h : UR D w FX0 X0 dev n N u ur g q W) : Calls Tryz.prog 23 #[.pointer (some ⟨g, 0, none⟩)] W fun e w' => e = .returned (.int .i64 (u.epoch : Int)) ∧ W = w' := by
  obtain ⟨p, bm, G, S, h1, h2⟩ := h
  exact h1.epoch
theorem UR.trimmed (h : UR D w FX0 X0 dev n N u ur g q W) : Calls Tryz.prog 29 #[.pointer (some ⟨g, 0, none⟩)] W fun e w' => e = .returned (.int .i64 (u.trimmed : Int)) ∧ W = w' := by
  obtain ⟨p, bm, G, S, h1, h2⟩ := h
  exact h1.trimmed
theorem UR.has (hD : DvSpec (three a) D) (hX : Stays FX0 X0) (h : UR D w FX0 X0 dev n N u ur g q W) (k : Nat) (hk : k ≤ 100000) :
    Calls Tryz.prog 32 #[.pointer (some ⟨g, 0, none⟩), .int .i64 (k : Int)] W fun e w' => e = .returned (.bool (hasD u k)) ∧ Below W.heap.size W w' ∧ UR D w FX0 X0 dev n N u ur g q w' := by
  obtain ⟨p, bm, G, S, h1, h2⟩ := h
  refine (h1.has hD (stays_two hX) k hk).mono ?_
  rintro e w' ⟨he, hb, hU⟩
  exact ⟨he, hb, p, bm, G, S, hU, h2⟩
theorem UR.free (hD : DvSpec (three a) D) (hX : Stays FX0 X0) (hn : n ≤ 1000) (h : UR D w FX0 X0 dev n N u ur g q W) :
    Calls Tryz.prog 31 #[.pointer (some ⟨g, 0, none⟩)] W fun e w' => e = .returned (.int .i64 ((u.store.places : Int) - (u.store.segs.length : Int))) ∧ UR D w FX0 X0 dev n N u ur g q w' := by
  obtain ⟨p, bm, G, S, h1, h2⟩ := h
  refine (h1.free hD (stays_two hX) hn).mono ?_
  rintro e w' ⟨he, hU⟩
  exact ⟨he, p, bm, G, S, hU, h2⟩
/-- The device's unit opened anew. -/
theorem UR.open (hD : DvSpec (three a) D) (hX : Stays FX0 X0) (hE : Errs w a) (hn : 64 ≤ n) (hn2 : n ≤ 1000) (hNl : N ≤ 90000) (h : UR D w FX0 X0 dev n N u ur g q W) :
    Calls Tryz.prog 10 #[.pointer (some ⟨dev, 0, none⟩)] W fun e w' => ∃ g', e = .returned (.tuple #[.pointer (some ⟨g', 0, none⟩), .nilIface]) ∧ UR D w FX0 X0 dev n N u ur g' q w' := by
  obtain ⟨p, bm, G, S, h1, h2⟩ := h
  refine (h1.toDev.open hD (stays_two hX) hE hn hn2 hNl).mono ?_
  rintro e w' ⟨g', p', bm', he, hU⟩
  exact ⟨g', he, p', bm', G, S, hU, h2⟩
end
end Go.Proofs.YtbhohlefgkcdmaaGreatDoor

/- A unit and the document's own, side by side: the document's own cells pinned. -/
namespace Go.Proofs.YtbhohlefgkcdmaaGreatDoor
open Go Go.RowKit Go.Shelf Tide

/-- The document's own cells that a law reads. -/
def CellsP (q p0 : Nat) (b0 : Option Addr) (c0 : Nat) (ur : UnitD) (W : World) : Prop := W.cell? ⟨q, 0, none⟩ = some (.pointer (some ⟨p0, 0, none⟩)) ∧ W.cell? ⟨q, 4, none⟩ = some (.int .i64 (ur.trimmed : Int)) ∧ W.cell? ⟨q, 5, none⟩ = some (.int .i64 (ur.epoch : Int)) ∧ W.cell? ⟨p0, 0, none⟩ = some (.int .i64 (ur.store.places : Int)) ∧ W.cell? ⟨p0, 1, none⟩ = some (.slice b0 ur.store.segs.length c0)
section
variable {D : DvP} {a : Nat → Addr} {w W W' : World} {FX0 : Nat → Prop} {X0 : World → Prop} {g q dev n N M : Nat} {u ur : UnitD}
theorem UR.pin (hD : DvSpec (three a) D) (hX : Stays FX0 X0) (h : UR D w FX0 X0 dev n N u ur g q W) : ∃ (p0 : Nat) (b0 : Option Addr) (c0 p bm : Nat) (FX : Nat → Prop) (X : World → Prop), Stays FX X ∧ UL D w FX X g p bm dev n N u W ∧ (∀ Y, X Y → CellsP q p0 b0 c0 ur Y) ∧ (∀ Y, UL D w FX X g p bm dev n N u Y → UR D w FX0 X0 dev n N u ur g q Y) ∧
    (∀ Y, X Y → Calls Tryz.prog 30 #[.pointer (some ⟨q, 0, none⟩)] Y fun e w' => e = .returned (.int .i64 ((max ur.top ur.trimmed : Nat) : Int)) ∧ Below Y.heap.size Y w') := by
  obtain ⟨p, bm, G, S, h1, h2⟩ := h
  obtain ⟨F, p0, va, vp, vi, rs, hr, hG⟩ := h1.else'.2
  obtain ⟨hq, c0, c1, c2, c3, c4, c5, c6, _⟩ := hr.facts
  obtain ⟨gs, vs, hgs, hW⟩ := hr.store
  obtain ⟨hpl, d0, d1, _⟩ := hW.block.facts
  obtain ⟨A, c, rfl, _, _⟩ := hW.vform
  have hgq : G q := (hG q).1 (.inr (.inl rfl))
  have hgp : G p0 := (hG p0).1 (.inl hW.fp.1)
  have hcp : CellsP q p0 A c ur W := ⟨c0, c4, c5, d0, by rw [d1, hgs, List.length_map]⟩
  refine ⟨p0, A, c, p, bm, fun k => FX0 k ∨ (G k ∨ S k), fun Y => (X0 Y ∧ RU Y G S q ur) ∧ CellsP q p0 A c ur Y, ?_, ?_, fun Y hY => hY.2, fun Y hY => ⟨p, bm, G, S, hY.less (fun _ h => h) (fun _ h => h.1), h2⟩, fun Y hY => ?_⟩
  · intro Y Y' F' hY hl hk hf
    have kq := fun i => hk.cell (p := ⟨q, i, none⟩) (hl q (.inr (.inl hgq))) (hf q (.inr (.inl hgq)))
    have kp := fun i => hk.cell (p := ⟨p0, i, none⟩) (hl p0 (.inr (.inl hgp))) (hf p0 (.inr (.inl hgp)))
    obtain ⟨e1, e2, e3, e4, e5⟩ := hY.2
    exact ⟨stays_two hX Y Y' F' hY.1 hl hk hf, (kq 0).trans e1, (kq 4).trans e2, (kq 5).trans e3, (kp 0).trans e4, (kp 1).trans e5⟩
  · exact h1.swap hD (Kept.refl (fun _ => False) W) (fun _ h => h.elim) (fun k hk => .inl hk) h1.lt ⟨h1.else', hcp⟩
  · obtain ⟨F', p0', va', vp', vi', rs', hr', _⟩ := hY.1.2
    exact rtail_any hr'
end
end Go.Proofs.YtbhohlefgkcdmaaGreatDoor
