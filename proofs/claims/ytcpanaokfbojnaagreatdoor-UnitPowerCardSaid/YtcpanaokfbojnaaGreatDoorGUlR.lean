/- A unit and the document's own, side by side: a step of either. -/
import Derived.Test.YtcpanaokfbojnaaGreatDoorGUlA
import Derived.Test.YtcpanaokfbojnaaGreatDoorGUrW
import Derived.Test.YtcpanaokfbojnaaGreatDoorGUiG
import Derived.Test.YtcpanaokfbojnaaGreatDoorGUrS
import Derived.Test.YtcpanaokfbojnaaGreatDoorGUrG
import Derived.Deep.RegionHeld3
import Derived.Deep.RegionLaw
namespace Go.Proofs.YtcpanaokfbojnaaGreatDoor
open Go Go.RowKit Go.Shelf Tide

def UR (D : DvP) (w : World) (FX0 : Nat → Prop) (X0 : World → Prop) (dev n N : Nat) (u ur : UnitD) (g q : Nat) (W : World) : Prop :=
  ∃ p bm G S, UL D w (fun k => FX0 k ∨ (G k ∨ S k)) (fun Y => X0 Y ∧ RU Y G S q ur) g p bm dev n N u W ∧ ∀ k, G k ∨ S k → w.heap.size ≤ k ∧ ¬ FX0 k
section
variable {D : DvP} {a : Nat → Addr} {w W W' : World} {FX0 : Nat → Prop} {X0 : World → Prop} {g q dev n N M : Nat} {u ur : UnitD} {G S : Nat → Prop}
theorem stays_two (hX : Stays FX0 X0) : Stays (fun k => FX0 k ∨ (G k ∨ S k)) (fun Y => X0 Y ∧ RU Y G S q ur) := fun Y Y' F h hl hk hf =>
  ⟨hX Y Y' F h.1 (fun k e => hl k (.inl e)) hk (fun k e => hf k (.inl e)), h.2.keep hk (fun k e => hf k (.inr e))⟩
theorem UR.mono (h : UR D w FX0 X0 dev n N u ur g q W) (hNM : N ≤ M) : UR D w FX0 X0 dev n M u ur g q W := by
  obtain ⟨p, bm, G, S, h1, h2⟩ := h
  exact ⟨p, bm, G, S, h1.mono hNM, h2⟩
theorem UR.since (h : UR D w FX0 X0 dev n N u ur g q W) : Below w.heap.size w W := by
  obtain ⟨p, bm, G, S, h1, h2⟩ := h
  exact h1.since
theorem UR.else0 (h : UR D w FX0 X0 dev n N u ur g q W) : X0 W := by
  obtain ⟨p, bm, G, S, h1, h2⟩ := h
  exact h1.else'.1
theorem UR.below (hD : DvSpec (three a) D) (hX : Stays FX0 X0) (h : UR D w FX0 X0 dev n N u ur g q W) (hb : Below W.heap.size W W') : UR D w FX0 X0 dev n N u ur g q W' := by
  obtain ⟨p, bm, G, S, h1, h2⟩ := h
  exact ⟨p, bm, G, S, h1.below hD (stays_two hX) hb, h2⟩
theorem UR.okR (h : UR D w FX0 X0 dev n N u ur g q W) (hn : n ≤ 1000) (hNl : N ≤ 90000) : OkR u := by
  obtain ⟨p, bm, G, S, h1, h2⟩ := h
  exact h1.okR hn hNl
theorem UR.box (hD : DvSpec (three a) D) (hX : Stays FX0 X0) (h : UR D w FX0 X0 dev n N u ur g q W) (o : Obj) : UR D w (fun k => FX0 k ∨ k = W.heap.size) (fun Y => X0 Y ∧ Y.heap[W.heap.size]? = some o) dev n N u ur g q (W.alloc o) := by
  obtain ⟨p, bm, G, S, h1, h2⟩ := h
  have hlt := h1.else'.2.lt
  refine ⟨p, bm, G, S, (h1.box hD (stays_two hX) o).less (fun k hk => ?_) (fun Y hY => ⟨⟨hY.1.1, hY.2⟩, hY.1.2⟩), fun k hk => ⟨(h2 k hk).1, fun e => ?_⟩⟩
  · rcases hk with (hk | hk) | hk
    · exact .inl (.inl hk)
    · exact .inr hk
    · exact .inl (.inr hk)
  · rcases e with e | e
    · exact (h2 k hk).2 e
    · have := hlt k hk; omega
theorem UR.less {FX' : Nat → Prop} {X' : World → Prop} (h : UR D w FX0 X0 dev n N u ur g q W) (hF : ∀ k, FX' k → FX0 k) (hX : ∀ Y, X0 Y → X' Y) : UR D w FX' X' dev n N u ur g q W := by
  obtain ⟨p, bm, G, S, h1, h2⟩ := h
  exact ⟨p, bm, G, S, h1.less (fun k hk => hk.imp (hF k) id) (fun Y hY => ⟨hX Y hY.1, hY.2⟩), fun k hk => ⟨(h2 k hk).1, fun e => (h2 k hk).2 (hF k e)⟩⟩
theorem UR.write (hD : DvSpec (three a) D) (hX : Stays FX0 X0) (hE : Errs w a) (hn : n ≤ 1000) (hNl : N ≤ 90000) (h : UR D w FX0 X0 dev n N u ur g q W) (ep a' : Int) (vb : Value) (b : List UInt8) (hv : Bytes W W.heap.size vb b) :
    Calls Tryz.prog 13 #[.pointer (some ⟨g, 0, none⟩), .int .i64 ep, .int .i64 a', vb] W fun e w' => ∃ x, e = .returned x ∧ IsErr a x (writeD u ep a' b).2 ∧ UR D w FX0 X0 dev n (N + 1) (writeD u ep a' b).1 ur g q w' := by
  obtain ⟨p, bm, G, S, h1, h2⟩ := h
  refine (h1.write hD (stays_two hX) hE hn hNl ep a' vb b hv).mono ?_
  rintro e w' ⟨x, rfl, hx, hU⟩
  exact ⟨x, rfl, hx, p, bm, G, S, hU, h2⟩
theorem UR.seal (hD : DvSpec (three a) D) (hX : Stays FX0 X0) (hE : Errs w a) (hn : n ≤ 1000) (hNl : N ≤ 90000) (h : UR D w FX0 X0 dev n N u ur g q W) (ep : Int) :
    Calls Tryz.prog 18 #[.pointer (some ⟨g, 0, none⟩), .int .i64 ep] W fun e w' => ∃ x, e = .returned (.tuple #[.int .i64 (sealD u ep).2.1, x]) ∧ IsErr a x (sealD u ep).2.2 ∧ UR D w FX0 X0 dev n (N + 1) (sealD u ep).1 ur g q w' := by
  obtain ⟨p, bm, G, S, h1, h2⟩ := h
  refine (h1.seal hD (stays_two hX) hE hn hNl ep).mono ?_
  rintro e w' ⟨x, rfl, hx, hU⟩
  exact ⟨x, rfl, hx, p, bm, G, S, hU, h2⟩
theorem UR.trim (hD : DvSpec (three a) D) (hX : Stays FX0 X0) (hE : Errs w a) (hn : n ≤ 1000) (hNl : N ≤ 90000) (h : UR D w FX0 X0 dev n N u ur g q W) (ep a9 : Int) :
    Calls Tryz.prog 16 #[.pointer (some ⟨g, 0, none⟩), .int .i64 ep, .int .i64 a9] W fun e w' => ∃ x, e = .returned x ∧ IsErr a x (trimD u ep a9).2 ∧ UR D w FX0 X0 dev n (N + 1) (trimD u ep a9).1 ur g q w' := by
  obtain ⟨p, bm, G, S, h1, h2⟩ := h
  refine (h1.trim hD (stays_two hX) hE hn hNl ep a9).mono ?_
  rintro e w' ⟨x, rfl, hx, hU⟩
  exact ⟨x, rfl, hx, p, bm, G, S, hU, h2⟩
theorem UR.read (hD : DvSpec (three a) D) (hX : Stays FX0 X0) (hE : Errs w a) (h : UR D w FX0 X0 dev n N u ur g q W) (ep a' : Int) :
    Calls Tryz.prog 25 #[.pointer (some ⟨g, 0, none⟩), .int .i64 ep, .int .i64 a'] W fun e w' => ∃ v x, e = .returned (.tuple #[v, x]) ∧ Bytes w' w'.heap.size v (readU u ep a').1 ∧ IsErr a x (readU u ep a').2 ∧ Below W.heap.size W w' ∧ UR D w FX0 X0 dev n N u ur g q w' := by
  obtain ⟨p, bm, G, S, h1, h2⟩ := h
  refine (h1.read hD (stays_two hX) hE ep a').mono ?_
  rintro e w' ⟨v, x, rfl, hv, hx, hb, hU⟩
  exact ⟨v, x, rfl, hv, hx, hb, p, bm, G, S, hU, h2⟩
theorem UR.step (hD : DvSpec (three a) D) (hX : Stays FX0 X0) {p bm : Nat} (h1 : UL D w (fun k => FX0 k ∨ (G k ∨ S k)) (fun Y => X0 Y ∧ RU Y G S q ur) g p bm dev n N u W) (h2 : ∀ k, G k ∨ S k → w.heap.size ≤ k ∧ ¬ FX0 k)
    {G' S' : Nat → Prop} {v : UnitD} (hr : RU W' G' S' q v) (hG : ∀ k, G' k → G k ∨ W.heap.size ≤ k) (hS : ∀ k, S' k → S k ∨ W.heap.size ≤ k) (hk : Kept G W W') : UR D w FX0 X0 dev n N u v g q W' := by
  have hlt := h1.lt
  have hz := hk.size
  have hz0 := h1.since.size
  refine ⟨p, bm, G', S', h1.swap hD hk (fun k e => ⟨.inr (.inl e), (h2 k (.inl e)).1⟩) (fun k e => ?_) (fun k e => ?_) ⟨hX _ _ _ h1.else'.1 (fun k e => hlt k (.inl e)) hk (fun k e e' => (h2 k (.inl e')).2 e), hr⟩, fun k e => ?_⟩
  · rcases e with e | e | e
    · exact .inl (.inl e)
    · exact (hG k e).imp (fun h => .inr (.inl h)) id
    · exact (hS k e).imp (fun h => .inr (.inr h)) id
  · rcases e with e | e
    · have := hlt k (.inl e); omega
    · exact hr.lt k e
  · have h9 : (G k ∨ S k) ∨ W.heap.size ≤ k := by
      rcases e with e | e
      · exact (hG k e).imp .inl id
      · exact (hS k e).imp .inr id
    rcases h9 with h9 | h9
    · exact h2 k h9
    · exact ⟨by omega, fun e' => by have := hlt k (.inl e'); omega⟩
theorem UR.rwrite (hD : DvSpec (three a) D) (hX : Stays FX0 X0) (hok : OkR ur) (h : UR D w FX0 X0 dev n N u ur g q W) (hb : Below W.heap.size W W') (ep a' : Int) (vb : Value) (b : List UInt8) (hv : W'.ownsRow W.heap.size 5 1 vb b.length (u8s b)) :
    Calls Tryz.prog 15 #[.pointer (some ⟨q, 0, none⟩), .int .i64 ep, .int .i64 a', vb] W' fun e w' => e = .returned (.int .i64 ((writeD ur ep a' b).2 : Nat)) ∧ UR D w FX0 X0 dev n N u (writeD ur ep a' b).1 g q w' := by
  have h' := h.below hD hX hb
  obtain ⟨p, bm, G, S, h1, h2⟩ := h
  have h1' := h1.below hD (stays_two hX) hb
  have hlt := h1.else'.2.lt
  obtain ⟨F, p0, va, vp, vi, rs, hr, hG⟩ := h1'.else'.2
  refine (rwrite_any hr hok.small hok.rows ep a' (Bytes.of_own hv) (fun k e e' => ?_)).mono ?_
  · have := (hv.lt k e).1
    have := hlt k (.inl ((hG k).1 e'))
    omega
  · rintro e w' ⟨he, G', S', g1, g2, g3, g4⟩
    exact ⟨he, UR.step hD hX h1' h2 g1 (fun k e => (g2 k e).imp (hG k).1 id) g3 (g4.mono (fun k _ e => (hG k).1 e))⟩
theorem UR.rtrim (hD : DvSpec (three a) D) (hX : Stays FX0 X0) (hok : OkR ur) (h : UR D w FX0 X0 dev n N u ur g q W) (ep a' : Int) :
    Calls Tryz.prog 17 #[.pointer (some ⟨q, 0, none⟩), .int .i64 ep, .int .i64 a'] W fun e w' => e = .returned (.int .i64 ((trimD ur ep a').2 : Nat)) ∧ UR D w FX0 X0 dev n N u (trimD ur ep a').1 g q w' := by
  obtain ⟨p, bm, G, S, h1, h2⟩ := h
  obtain ⟨F, p0, va, vp, vi, rs, hr, hG⟩ := h1.else'.2
  refine (rtrim_any hr hok.small ep a' hok.rows hok.epoch hok.small2 hok.trims).mono ?_
  rintro e w' ⟨he, G', S', g1, g2, g3, g4⟩
  exact ⟨he, UR.step hD hX h1 h2 g1 (fun k e => (g2 k e).imp (hG k).1 id) g3 (g4.mono (fun k _ e => (hG k).1 e))⟩
theorem UR.rseal (hD : DvSpec (three a) D) (hX : Stays FX0 X0) (hok : OkR ur) (h : UR D w FX0 X0 dev n N u ur g q W) (ep : Int) :
    Calls Tryz.prog 19 #[.pointer (some ⟨q, 0, none⟩), .int .i64 ep] W fun e w' => e = .returned (.tuple #[.int .i64 (sealD ur ep).2.1, .int .i64 ((sealD ur ep).2.2 : Nat)]) ∧ UR D w FX0 X0 dev n N u (sealD ur ep).1 g q w' := by
  obtain ⟨p, bm, G, S, h1, h2⟩ := h
  obtain ⟨F, p0, va, vp, vi, rs, hr, hG⟩ := h1.else'.2
  refine (rseal_any hr hok.small ep).mono ?_
  rintro e w' ⟨k, he, hk, _, G', S', g1, g2, g3, g4⟩
  exact ⟨by rw [he, hk], UR.step hD hX h1 h2 g1 (fun k e => (g2 k e).imp (hG k).1 id) g3 (g4.mono (fun k _ e => (hG k).1 e))⟩
theorem UR.rread (hD : DvSpec (three a) D) (hX : Stays FX0 X0) (hok : OkR ur) (h : UR D w FX0 X0 dev n N u ur g q W) (ep a' : Int) :
    Calls Tryz.prog 28 #[.pointer (some ⟨q, 0, none⟩), .int .i64 ep, .int .i64 a'] W fun e w' => ∃ v, e = .returned (.tuple #[v, .int .i64 ((readU ur ep a').2 : Nat)]) ∧ Bytes w' w'.heap.size v (readU ur ep a').1 ∧ Below W.heap.size W w' ∧ UR D w FX0 X0 dev n N u ur g q w' := by
  have h0 := h
  obtain ⟨p, bm, G, S, h1, h2⟩ := h
  obtain ⟨F, p0, va, vp, vi, rs, hr, hG⟩ := h1.else'.2
  refine (refread_any hr hok.bytes ep a').mono ?_
  rintro e w' ⟨v, he, hv, hb⟩
  exact ⟨v, he, hv, hb, h0.below hD hX hb⟩
theorem UR.tail (hD : DvSpec (three a) D) (hX : Stays FX0 X0) (hNl : N ≤ 90000) (h : UR D w FX0 X0 dev n N u ur g q W) :
    Calls Tryz.prog 24 #[.pointer (some ⟨g, 0, none⟩)] W fun e w' => e = .returned (.int .i64 ((max u.top u.trimmed : Nat) : Int)) ∧ Below W.heap.size W w' ∧ UR D w FX0 X0 dev n N u ur g q w' := by
  obtain ⟨p, bm, G, S, h1, h2⟩ := h
  refine (h1.tail hD (stays_two hX) hNl).mono ?_
  rintro e w' ⟨he, hb, hU⟩
  exact ⟨he, hb, p, bm, G, S, hU, h2⟩
theorem UR.epoch (h : UR D w FX0 X0 dev n N u ur g q W) : Calls Tryz.prog 23 #[.pointer (some ⟨g, 0, none⟩)] W fun e w' => e = .returned (.int .i64 (u.epoch : Int)) ∧ W = w' := by
  obtain ⟨p, bm, G, S, h1, h2⟩ := h
  exact h1.epoch
theorem UR.trimmed (h : UR D w FX0 X0 dev n N u ur g q W) : Calls Tryz.prog 29 #[.pointer (some ⟨g, 0, none⟩)] W fun e w' => e = .returned (.int .i64 (u.trimmed : Int)) ∧ W = w' := by
  obtain ⟨p, bm, G, S, h1, h2⟩ := h
  exact h1.trimmed
theorem UR.has (hD : DvSpec (three a) D) (hX : Stays FX0 X0) (h : UR D w FX0 X0 dev n N u ur g q W) (k : Nat) (hk : k ≤ 100000) :
    Calls Tryz.prog 32 #[.pointer (some ⟨g, 0, none⟩), .int .i64 (k : Int)] W fun e w' => e = .returned (.bool (hasD u k)) ∧ Below W.heap.size W w' ∧ UR D w FX0 X0 dev n N u ur g q w' := by
  obtain ⟨p, bm, G, S, h1, h2⟩ := h
  refine (h1.has hD (stays_two hX) k hk).mono ?_
  rintro e w' ⟨he, hb, hU⟩
  exact ⟨he, hb, p, bm, G, S, hU, h2⟩
theorem UR.free (hD : DvSpec (three a) D) (hX : Stays FX0 X0) (hn : n ≤ 1000) (h : UR D w FX0 X0 dev n N u ur g q W) :
    Calls Tryz.prog 31 #[.pointer (some ⟨g, 0, none⟩)] W fun e w' => e = .returned (.int .i64 ((u.store.places : Int) - (u.store.segs.length : Int))) ∧ UR D w FX0 X0 dev n N u ur g q w' := by
  obtain ⟨p, bm, G, S, h1, h2⟩ := h
  refine (h1.free hD (stays_two hX) hn).mono ?_
  rintro e w' ⟨he, hU⟩
  exact ⟨he, p, bm, G, S, hU, h2⟩
theorem UR.open (hD : DvSpec (three a) D) (hX : Stays FX0 X0) (hE : Errs w a) (hn : 64 ≤ n) (hn2 : n ≤ 1000) (hNl : N ≤ 90000) (h : UR D w FX0 X0 dev n N u ur g q W) :
    Calls Tryz.prog 10 #[.pointer (some ⟨dev, 0, none⟩)] W fun e w' => ∃ g', e = .returned (.tuple #[.pointer (some ⟨g', 0, none⟩), .nilIface]) ∧ UR D w FX0 X0 dev n N u ur g' q w' := by
  obtain ⟨p, bm, G, S, h1, h2⟩ := h
  refine (h1.toDev.open hD (stays_two hX) hE hn hn2 hNl).mono ?_
  rintro e w' ⟨g', p', bm', he, hU⟩
  exact ⟨g', he, p', bm', G, S, hU, h2⟩
end
end Go.Proofs.YtcpanaokfbojnaaGreatDoor

/- A unit whose device loses power: Stop, Crash, and what is opened behind it. -/
namespace Go.Proofs.YtcpanaokfbojnaaGreatDoor
open Go Go.RowKit Go.Shelf Tide

section
variable {D : DvP} {x : Nat → Addr} {w W W' : World} {FX : Nat → Prop} {X : World → Prop} {g p bm dev n N : Nat} {us : List SegU} {d : Dv} {s : StU} {u ub : UnitD}
theorem US.stop (hD : DvSpec x D) (hX : Stays FX X) (h : US D w FX X g p bm dev us d s W) (hs : d.stop = none) (k : Int) (hk : k ≤ 9223372036854775807) :
    Calls Tryz.prog 12 #[.pointer (some ⟨dev, 0, none⟩), .int .i64 k] W fun e w' => e = .returned (.tuple #[]) ∧ US D w FX X g p bm dev us ⟨d.img, d.pend, some k.toNat⟩ s w' := by
  have h0 := h
  obtain ⟨Fd, Fs, vs, h1, h2, h3, h4, h5, h6, h7, h8, h9⟩ := h
  refine (hD.stop _ _ _ _ k h1 hs hk).mono ?_
  rintro e w' ⟨rfl, r1, r2⟩
  exact ⟨rfl, US.rs hX h0 (fun k hk => h6 k (hk.elim .inl (fun h => .inr (.inl h)))) h5 ⟨Fd, Fs, vs, r1, h2.keep r2 (fun k hs' hd' => h4 k hd' hs'), h4, fun k hk => .inl hk, fun k hk => .inl hk, r2.mono (fun k _ h => .inl h)⟩ hD⟩
theorem UD.crash (hD : DvSpec x D) (hX : Stays FX X) (h : UD D w FX X dev d W) (hl : d.img.length = 64 * n) {Q : List UInt8 → Prop} (hQ : Lost n d Q) (kv torn cut : Int) :
    Calls Tryz.prog 20 #[.pointer (some ⟨dev, 0, none⟩), .int .u64 kv, .int .i64 torn, .int .i64 cut] W fun e w' => e = .returned (.tuple #[]) ∧ ∃ im, Q im ∧ UD D w FX X dev ⟨im, [], none⟩ w' := by
  obtain ⟨F, h1, h2, h3, h4, h5⟩ := h
  refine (hD.crash _ _ _ _ kv torn cut h1).mono ?_
  rintro e w' ⟨rfl, r1, xs, r2, r3, r4⟩
  have e : d.img.length / 64 = n := by omega
  rw [e] at r3
  have hz := r1.size
  exact ⟨rfl, _, hQ xs r2 r3, F, r4, fun k hk => ⟨(h2 k hk).1, (h2 k hk).2.1, Nat.lt_of_lt_of_le (h2 k hk).2.2 hz⟩, fun k hk => Nat.lt_of_lt_of_le (h3 k hk) hz, h4.trans (r1.below h4.size (fun k hk => (h2 k hk).2.1)), hX _ _ _ h5 h3 r1 (fun k hf hk => (h2 k hk).1 hf)⟩
theorem write_same {ep a : Int} {b : List UInt8} (h : (writeD u ep a b).2 ≠ 0) : (writeD u ep a b).1 = u := by
  unfold writeD at h ⊢
  split
  · rfl
  split
  · rfl
  split
  · rfl
  split
  · rfl
  split
  · rename_i h9
    exact put_same _ h9
  · rename_i h1 h2 h3 h4 h5
    rw [if_neg h1, if_neg h2, if_neg h3, if_neg h4, if_neg h5] at h
    exact absurd rfl h
theorem trim_same {ep a : Int} (h : (trimD u ep a).2 ≠ 0) : (trimD u ep a).1 = u := by
  unfold trimD at h ⊢
  split
  · rfl
  split
  · rfl
  split
  · rename_i h9
    exact put_same _ h9
  · rename_i h1 h2 h3
    rw [if_neg h1, if_neg h2, if_neg h3] at h
    exact absurd rfl h
theorem seal_same {ep : Int} (h : (sealD u ep).2.2 ≠ 0) : (sealD u ep).1 = u := by
  unfold sealD at h ⊢
  split
  · rfl
  split
  · rfl
  split
  · split
    · rename_i h9
      exact put_same _ h9
    · rename_i h1 h2 h3 h4
      rw [if_neg h1, if_neg h2, if_pos h3, if_neg h4] at h
      exact absurd rfl h
  · rfl
end
end Go.Proofs.YtcpanaokfbojnaaGreatDoor

/- A unit, the document's own, and a copy of that, beside a device that may go down, whatever else lies besides; behind the last act, behind a loss of power. -/
namespace Go.Proofs.YtcpanaokfbojnaaGreatDoor
open Go Go.RowKit Go.Shelf Tide

def FX2 (G1 S1 G2 S2 : Nat → Prop) (k : Nat) : Prop := (G1 k ∨ S1 k) ∨ (G2 k ∨ S2 k)
def FX3 (FX0 G1 S1 G2 S2 : Nat → Prop) (k : Nat) : Prop := FX0 k ∨ FX2 G1 S1 G2 S2 k
def X3 (X0 : World → Prop) (G1 S1 G2 S2 : Nat → Prop) (q1 q2 : Nat) (u1 u2 : UnitD) (Y : World) : Prop := X0 Y ∧ RU Y G1 S1 q1 u1 ∧ RU Y G2 S2 q2 u2
structure Sep3 (w : World) (FX0 G1 S1 G2 S2 : Nat → Prop) : Prop where
  one : ∀ k, G1 k → ¬ (G2 k ∨ S2 k)
  two : ∀ k, G2 k → ¬ (G1 k ∨ S1 k)
  low : ∀ k, FX2 G1 S1 G2 S2 k → w.heap.size ≤ k ∧ ¬ FX0 k
section
variable {D : DvP} {a : Nat → Addr} {w W W' : World} {FX0 : Nat → Prop} {X0 : World → Prop} {G1 S1 G2 S2 G2' S2' : Nat → Prop} {q1 q2 g p bm dev n N : Nat} {u u1 u2 v : UnitD} {us : List SegU} {d : Dv} {s : StU}
theorem stays3 (hX : Stays FX0 X0) : Stays (FX3 FX0 G1 S1 G2 S2) (X3 X0 G1 S1 G2 S2 q1 q2 u1 u2) := fun Y Y' F h hl hk hf =>
  ⟨hX Y Y' F h.1 (fun k e => hl k (.inl e)) hk (fun k e => hf k (.inl e)), h.2.1.keep hk (fun k e => hf k (.inr (.inl e))), h.2.2.keep hk (fun k e => hf k (.inr (.inr e)))⟩
theorem US.lt (h : US D w FX0 X0 g p bm dev us d s W) : ∀ k, FX0 k → k < W.heap.size := by
  obtain ⟨_, _, _, _, _, _, _, _, _, h7, _⟩ := h
  exact h7
theorem UR.copy3 (hD : DvSpec (three a) D) (hX : Stays FX0 X0) (hok : OkR u1) (h : UR D w FX0 X0 dev n N u u1 g q1 W) :
    Calls Tryz.prog 11 #[.pointer (some ⟨q1, 0, none⟩)] W fun e w' => ∃ q2 p bm G1 S1 G2 S2, e = .returned (.pointer (some ⟨q2, 0, none⟩)) ∧ UL D w (FX3 FX0 G1 S1 G2 S2) (X3 X0 G1 S1 G2 S2 q1 q2 u1 u1) g p bm dev n N u w' ∧ Sep3 w FX0 G1 S1 G2 S2 := by
  obtain ⟨p, bm, G, S, h1, h2⟩ := h
  have hR := h1.else'.2
  have hX0 := h1.else'.1
  have hL := h1.lt
  have hlt := hR.lt
  have hap := hR.apart
  obtain ⟨F, p0, va, vp, vi, rs, hr, hG⟩ := hR
  have hz0 := h1.since.size
  refine (rcopy_any hr hok.small hok.rows).mono ?_
  rintro e w' ⟨q2, G2, rfl, r1, r2, r3⟩
  have hR1 : RU W G S q1 u1 := ⟨F, p0, va, vp, vi, rs, hr, hG⟩
  have hl2 := r1.lt
  refine ⟨q2, p, bm, G, S, G2, S, rfl, h1.swap hD (K := fun _ => False) (Kept.of_below r3) (fun _ h => h.elim) (fun k hk => ?_) (fun k hk => ?_) ⟨hX _ _ (fun _ => False) hX0 (fun k e => hL k (.inl e)) (Kept.of_below r3) (fun _ _ h => h), hR1.below r3, r1⟩, ⟨fun k hk e => ?_, fun k hk e => ?_, fun k hk => ?_⟩⟩
  · rcases hk with hk | hk | hk | hk
    · exact .inl (.inl hk)
    · exact .inl (.inr hk)
    · exact .inr (r2 k hk)
    · exact .inl (.inr (.inr hk))
  · rcases hk with hk | hk | hk
    · exact Nat.lt_of_lt_of_le (hL k (.inl hk)) r3.size
    · exact Nat.lt_of_lt_of_le (hlt k hk) r3.size
    · exact hl2 k hk
  · rcases e with e | e
    · have := r2 k e; have := hlt k (.inl hk); omega
    · exact hap k hk e
  · have h3 := r2 k hk
    have := hlt k e
    omega
  · rcases hk with hk | hk | hk
    · exact h2 k hk
    · refine ⟨by have := r2 k hk; omega, fun e => ?_⟩
      have := r2 k hk
      have := hL k (.inl e)
      omega
    · exact h2 k (.inr hk)
theorem US.step3 (hD : DvSpec (three a) D) (hX0 : Stays FX0 X0) (h : US D w (FX3 FX0 G1 S1 G2 S2) (X3 X0 G1 S1 G2 S2 q1 q2 u1 u2) g p bm dev us d s W) (hs : Sep3 w FX0 G1 S1 G2 S2) (hr : RU W' G2' S2' q2 v) (hG : ∀ k, G2' k → G2 k ∨ W.heap.size ≤ k) (hS : ∀ k, S2' k → S2 k ∨ W.heap.size ≤ k) (hk : Kept G2 W W') :
    US D w (FX3 FX0 G1 S1 G2' S2') (X3 X0 G1 S1 G2' S2' q1 q2 u1 v) g p bm dev us d s W' ∧ Sep3 w FX0 G1 S1 G2' S2' := by
  have hX := h.else'
  have hL := h.lt
  have hl1 := hX.2.1.lt
  have hz := hk.size
  have hz0 := h.since.size
  refine ⟨h.swap hD hk (fun k e => ⟨.inr (.inr (.inl e)), (hs.low k (.inr (.inl e))).1⟩) (fun k e => ?_) (fun k e => ?_) ⟨hX0 _ _ _ hX.1 (fun k e => hL k (.inl e)) hk (fun k e e' => (hs.low k (.inr (.inl e'))).2 e), hX.2.1.keep hk (fun k e e' => hs.two k e' e), hr⟩, ⟨fun k e e' => ?_, fun k e e' => ?_, fun k e => ?_⟩⟩
  · rcases e with e | e | e | e
    · exact .inl (.inl e)
    · exact .inl (.inr (.inl e))
    · exact (hG k e).imp (fun h => .inr (.inr (.inl h))) id
    · exact (hS k e).imp (fun h => .inr (.inr (.inr h))) id
  · rcases e with e | e | e
    · exact Nat.lt_of_lt_of_le (hL k (.inl e)) hz
    · exact Nat.lt_of_lt_of_le (hl1 k e) hz
    · exact hr.lt k e
  · have := hl1 k (.inl e)
    rcases e' with e' | e'
    · rcases hG k e' with h9 | h9
      · exact hs.one k e (.inl h9)
      · omega
    · rcases hS k e' with h9 | h9
      · exact hs.one k e (.inr h9)
      · omega
  · have := hl1 k e'
    rcases hG k e with h9 | h9
    · exact hs.two k h9 e'
    · omega
  · have hnew : W.heap.size ≤ k → w.heap.size ≤ k ∧ ¬ FX0 k := fun h9 => ⟨by omega, fun e' => by have := hL k (.inl e'); omega⟩
    rcases e with e | e | e
    · exact hs.low k (.inl e)
    · rcases hG k e with h9 | h9
      · exact hs.low k (.inr (.inl h9))
      · exact hnew h9
    · rcases hS k e with h9 | h9
      · exact hs.low k (.inr (.inr h9))
      · exact hnew h9
def UM (D : DvP) (w : World) (FX : Nat → Prop) (X : World → Prop) (g p bm dev n N : Nat) (u : UnitD) (W : World) : Prop :=
  ∃ d s l, US D w FX X g p bm dev (usOf u.store) d s W ∧ d.pend = [] ∧ LiesM n d.img u.store ∧ Holds u s l ∧ NormL l ∧ NumLe N u.store
def UE (D : DvP) (a : Nat → Addr) (w : World) (FX : Nat → Prop) (X : World → Prop) (g p bm dev n N : Nat) (u ub : UnitD) (r : Nat) (x : Value) (W : World) : Prop :=
  ∃ us d s, US D w FX X g p bm dev us d s W ∧ d.img.length = 64 * n ∧ ((IsErr a x r ∧ d.pend = [] ∧ LiesM n d.img ub.store ∧ Like ub ub.store ∧ NumLe (N + 1) ub.store) ∨ (IsErr a x 12 ∧ Lost n d (fun im => ∃ m', LiesM n im m' ∧ NumLe (N + 1) m' ∧ (Like u m' ∨ Like ub m'))))
theorem UE.of {FX : Nat → Prop} {X : World → Prop} {ub : UnitD} {r : Nat} {x : Value} (h : StepR D a w FX X g p bm dev n N u ub r d x W) : UE D a w FX X g p bm dev n N u ub r x W := by
  rcases h with ⟨h1, d', s', l', h2, _, h4, h5, h6, h7, h8⟩ | ⟨_, h1, us', s', d', h2, h3, h4⟩
  · exact ⟨_, d', s', h8, h4.len, .inl ⟨h1, h2, h4, holds_like h5 h6, h7⟩⟩
  · exact ⟨us', d', s', h4, h2, .inr ⟨h1, h3⟩⟩
theorem UL.stop3 {FX : Nat → Prop} {X : World → Prop} (hD : DvSpec (three a) D) (hX : Stays FX X) (h : UL D w FX X g p bm dev n N u W) (k : Int) (hk : k ≤ 9223372036854775807) :
    Calls Tryz.prog 12 #[.pointer (some ⟨dev, 0, none⟩), .int .i64 k] W fun e w' => e = .returned (.tuple #[]) ∧ UM D w FX X g p bm dev n N u w' := by
  obtain ⟨d, s, l, h1, h2, h3, h4, h5, h6, h7⟩ := h
  refine (h1.stop hD hX h3 k hk).mono ?_
  rintro e w' ⟨rfl, hU⟩
  exact ⟨rfl, _, s, l, hU, h2, h4, h5, h6, h7⟩
theorem UM.below {FX : Nat → Prop} {X : World → Prop} (hD : DvSpec (three a) D) (hX : Stays FX X) (h : UM D w FX X g p bm dev n N u W) (hb : Below W.heap.size W W') : UM D w FX X g p bm dev n N u W' := by
  obtain ⟨d, s, l, h1, h2⟩ := h
  exact ⟨d, s, l, h1.below hD hX hb, h2⟩
theorem UM.since {FX : Nat → Prop} {X : World → Prop} (h : UM D w FX X g p bm dev n N u W) : Below w.heap.size w W := by obtain ⟨d, s, l, h1, _⟩ := h; exact h1.since
theorem UM.else' {FX : Nat → Prop} {X : World → Prop} (h : UM D w FX X g p bm dev n N u W) : X W := by obtain ⟨d, s, l, h1, _⟩ := h; exact h1.else'
theorem UE.since {FX : Nat → Prop} {X : World → Prop} {ub : UnitD} {r : Nat} {x : Value} (h : UE D a w FX X g p bm dev n N u ub r x W) : Below w.heap.size w W := by obtain ⟨us, d, s, h1, _⟩ := h; exact h1.since
theorem UE.else' {FX : Nat → Prop} {X : World → Prop} {ub : UnitD} {r : Nat} {x : Value} (h : UE D a w FX X g p bm dev n N u ub r x W) : X W := by obtain ⟨us, d, s, h1, _⟩ := h; exact h1.else'
theorem UE.below {FX : Nat → Prop} {X : World → Prop} {ub : UnitD} {r : Nat} {x : Value} (hD : DvSpec (three a) D) (hX : Stays FX X) (h : UE D a w FX X g p bm dev n N u ub r x W) (hb : Below W.heap.size W W') : UE D a w FX X g p bm dev n N u ub r x W' := by
  obtain ⟨us, d, s, h1, h2⟩ := h
  exact ⟨us, d, s, h1.below hD hX hb, h2⟩
theorem UE.step3 {ub : UnitD} {r : Nat} {x : Value} (hD : DvSpec (three a) D) (hX0 : Stays FX0 X0) (h : UE D a w (FX3 FX0 G1 S1 G2 S2) (X3 X0 G1 S1 G2 S2 q1 q2 u1 u2) g p bm dev n N u ub r x W) (hs : Sep3 w FX0 G1 S1 G2 S2) (hr : RU W' G2' S2' q2 v) (hG : ∀ k, G2' k → G2 k ∨ W.heap.size ≤ k) (hS : ∀ k, S2' k → S2 k ∨ W.heap.size ≤ k) (hk : Kept G2 W W') :
    UE D a w (FX3 FX0 G1 S1 G2' S2') (X3 X0 G1 S1 G2' S2' q1 q2 u1 v) g p bm dev n N u ub r x W' ∧ Sep3 w FX0 G1 S1 G2' S2' := by
  obtain ⟨us, d, s, h1, h2⟩ := h
  obtain ⟨h3, h4⟩ := US.step3 hD hX0 h1 hs hr hG hS hk
  exact ⟨⟨us, d, s, h3, h2⟩, h4⟩
def EndU (a : Nat → Addr) (u ub : UnitD) (r : Nat) (x : Value) (v : UnitD) : Prop := (v = ub ∧ IsErr a x r) ∨ (IsErr a x 12 ∧ ∃ m', v = { u with store := m' } ∨ v = { ub with store := m' })
theorem UE.crash {FX : Nat → Prop} {X : World → Prop} {ub : UnitD} {r : Nat} {x : Value} (hD : DvSpec (three a) D) (hX : Stays FX X) (h : UE D a w FX X g p bm dev n N u ub r x W) (kv torn cut : Int) :
    Calls Tryz.prog 20 #[.pointer (some ⟨dev, 0, none⟩), .int .u64 kv, .int .i64 torn, .int .i64 cut] W fun e w' => e = .returned (.tuple #[]) ∧ ∃ v, UO D w FX X dev n (N + 1) v w' ∧ EndU a u ub r x v := by
  obtain ⟨us, d, s, h1, h2, h3⟩ := h
  have hQ : Lost n d (fun im => ∃ v : UnitD, (LiesM n im v.store ∧ Like v v.store ∧ NumLe (N + 1) v.store) ∧ EndU a u ub r x v) := by
    rcases h3 with ⟨k1, k2, k3, k4, k5⟩ | ⟨k1, k2⟩
    · exact lost_none k2 ⟨ub, ⟨k3, k4, k5⟩, .inl ⟨rfl, k1⟩⟩
    · intro xs hx hf
      obtain ⟨m', g1, g2, g3⟩ := k2 xs hx hf
      rcases g3 with g3 | g3
      · exact ⟨{ u with store := m' }, ⟨g1, g3, g2⟩, .inr ⟨k1, m', .inl rfl⟩⟩
      · exact ⟨{ ub with store := m' }, ⟨g1, g3, g2⟩, .inr ⟨k1, m', .inr rfl⟩⟩
  refine (UD.crash hD hX h1.toDev h2 hQ kv torn cut).mono ?_
  rintro e w' ⟨rfl, im, ⟨v, ⟨k1, k2, k3⟩, k4⟩, hU⟩
  exact ⟨rfl, v, ⟨_, hU, rfl, rfl, k1, k2, k3⟩, k4⟩
def ShortU (u : UnitD) : Prop := ∀ r ∈ u.rows, u.trimmed ≤ r.adr → r.bs.length ≤ 2048
theorem short_write {ep b' : Int} {b : List UInt8} (h : ShortU u) : ShortU (writeD u ep b' b).1 := by
  unfold writeD
  split
  · exact h
  split
  · exact h
  rename_i h2
  split
  · exact h
  split
  · exact h
  split
  · exact h
  · intro r hr ht
    rcases List.mem_append.1 hr with hr | hr
    · exact h r hr ht
    · rw [List.mem_singleton] at hr
      subst hr
      show b.length ≤ 2048
      omega
theorem short_trim {ep to' : Int} (h : ShortU u) : ShortU (trimD u ep to').1 := by
  unfold trimD
  split
  · exact h
  split
  · exact h
  rename_i h1 h2
  split
  · exact h
  · intro r hr ht
    refine h r hr ?_
    have : to'.toNat ≤ r.adr := ht
    omega
theorem short_seal {ep : Int} (h : ShortU u) : ShortU (sealD u ep).1 := by
  unfold sealD
  repeat' split
  all_goals exact h
end
end Go.Proofs.YtcpanaokfbojnaaGreatDoor

/- The laws of a unit: told: does a unit tell what a model holds, whichever model it is? -/
namespace Go.Proofs.YtcpanaokfbojnaaGreatDoor
open Go Go.RowKit Go.Shelf Tide

structure Agree (u ur : UnitD) : Prop where
  epoch : u.epoch = ur.epoch
  trimmed : u.trimmed = ur.trimmed
  tail : max u.top u.trimmed = max ur.top ur.trimmed
  read : ∀ k : Nat, readU u ur.epoch k = readU ur ur.epoch k
theorem agree_store (u : UnitD) (m : StoD) : Agree { u with store := m } u := ⟨rfl, rfl, rfl, fun _ => rfl⟩
section
variable {D : DvP} {a : Nat → Addr} {w W : World} {FX : Nat → Prop} {X : World → Prop} {g q p bm dev n N : Nat} {u ur : UnitD}
set_option maxRecDepth 100000 in
set_option maxHeartbeats 4000000 in
theorem told_any (hD : DvSpec (three a) D) (hXs : Stays FX X) (hE : Errs w a) (hNl : N ≤ 90000) (hby : ∀ r ∈ ur.rows, ur.trimmed ≤ r.adr → r.bs.length ≤ 2048) (hM : ∀ Y, X Y → ∃ G S, RU Y G S q ur) (hU : UL D w FX X g p bm dev n N u W) :
    Calls Tryz.prog 21 #[.pointer (some ⟨g, 0, none⟩), .pointer (some ⟨q, 0, none⟩)] W fun e w' => ∃ b, e = .returned (.bool b) ∧ (Agree u ur → b = true) ∧ UL D w FX X g p bm dev n N u w' := by
  obtain ⟨E, hE1⟩ : ∃ E, u.epoch = E := ⟨_, rfl⟩
  obtain ⟨T, hT1⟩ : ∃ T, u.trimmed = T := ⟨_, rfl⟩
  obtain ⟨M, hM1⟩ : ∃ M, max u.top u.trimmed = M := ⟨_, rfl⟩
  obtain ⟨E2, hE2⟩ : ∃ E, ur.epoch = E := ⟨_, rfl⟩
  obtain ⟨T2, hT2⟩ : ∃ T, ur.trimmed = T := ⟨_, rfl⟩
  obtain ⟨M2, hM2⟩ : ∃ M, max ur.top ur.trimmed = M := ⟨_, rfl⟩
  have HS := Lib.hid (fun (Y : World) (hY : UL D w FX X g p bm dev n N u Y) => show Y.cell? ⟨q, 4, none⟩ = some (.int .i64 (T2 : Int)) ∧ Y.cell? ⟨q, 5, none⟩ = some (.int .i64 (E2 : Int)) from by
    obtain ⟨G, S, F, p0, va, vp, vi, rs, hr, _⟩ := hM Y hY.else'
    obtain ⟨hq, c0, c1, c2, c3, c4, c5, c6, _⟩ := hr.facts
    rw [hT2] at c4
    rw [hE2] at c5
    exact ⟨c4, c5⟩)
  have CE := Lib.hid (fun (Y : World) (hY : UL D w FX X g p bm dev n N u Y) => show Calls Tryz.prog 23 #[.pointer (some ⟨g, 0, none⟩)] Y fun e w' => e = .returned (.int .i64 (E : Int)) ∧ Y = w' from by rw [← hE1]; exact hY.epoch)
  have CT := Lib.hid (fun (Y : World) (hY : UL D w FX X g p bm dev n N u Y) => show Calls Tryz.prog 29 #[.pointer (some ⟨g, 0, none⟩)] Y fun e w' => e = .returned (.int .i64 (T : Int)) ∧ Y = w' from by rw [← hT1]; exact hY.trimmed)
  have CA := Lib.hid (fun (Y : World) (hY : UL D w FX X g p bm dev n N u Y) => show Calls Tryz.prog 24 #[.pointer (some ⟨g, 0, none⟩)] Y fun e w' => e = .returned (.int .i64 (M : Int)) ∧ UL D w FX X g p bm dev n N u w' from by
    rw [← hM1]
    exact (hY.tail hD hXs hNl).mono (fun e w' h => ⟨h.1, h.2.2⟩))
  have CR := Lib.hid (fun (Y : World) (hY : UL D w FX X g p bm dev n N u Y) => show Calls Tryz.prog 30 #[.pointer (some ⟨q, 0, none⟩)] Y fun e w' => e = .returned (.int .i64 (M2 : Int)) ∧ UL D w FX X g p bm dev n N u w' from by
    rw [← hM2]
    obtain ⟨G, S, F, p0, va, vp, vi, rs, hr, _⟩ := hM Y hY.else'
    exact (rtail_any hr).mono (fun e w' h => ⟨h.1, hY.below hD hXs h.2⟩))
  have CRd := Lib.hid (fun (Y : World) (hY : UL D w FX X g p bm dev n N u Y) (k : Nat) => show Calls Tryz.prog 25 #[.pointer (some ⟨g, 0, none⟩), .int .i64 (E2 : Int), .int .i64 (k : Int)] Y fun e w' => ∃ v x, e = .returned (.tuple #[v, x]) ∧ Bytes w' w'.heap.size v (readU u E2 k).1 ∧ IsErr a x (readU u E2 k).2 ∧ UL D w FX X g p bm dev n N u w' from
    (hY.read hD hXs hE E2 k).mono (fun e w' ⟨v, x, h1, h2, h3, _, h5⟩ => ⟨v, x, h1, h2, h3, h5⟩))
  have CRr := Lib.hid (fun (Y : World) (hY : UL D w FX X g p bm dev n N u Y) (k : Nat) => show Calls Tryz.prog 28 #[.pointer (some ⟨q, 0, none⟩), .int .i64 (E2 : Int), .int .i64 (k : Int)] Y fun e w' => ∃ v, e = .returned (.tuple #[v, .int .i64 ((readU ur E2 k).2 : Nat)]) ∧ Bytes w' w'.heap.size v (readU ur E2 k).1 ∧ Below Y.heap.size Y w' ∧ UL D w FX X g p bm dev n N u w' from by
    obtain ⟨G, S, F, p0, va, vp, vi, rs, hr, _⟩ := hM Y hY.else'
    exact (refread_any hr hby E2 k).mono (fun e w' ⟨v, h1, h2, h3⟩ => ⟨v, h1, h2, h3, hY.below hD hXs h3⟩))
  have HUb := Lib.hid (fun (Y Y' : World) (hY : UL D w FX X g p bm dev n N u Y) (hb : Below Y.heap.size Y Y') => show UL D w FX X g p bm dev n N u Y' from hY.below hD hXs hb)
  have HAg := Lib.hid (show Agree u ur → E = E2 ∧ T = T2 ∧ M = M2 ∧ ∀ k : Nat, readU u E2 k = readU ur E2 k from fun h => ⟨by rw [← hE1, ← hE2]; exact h.epoch, by rw [← hT1, ← hT2]; exact h.trimmed, by rw [← hM1, ← hM2]; exact h.tail, by rw [← hE2]; exact h.read⟩)
  have U0 := Lib.hid (hU.below hD hXs ((Below.refl W.heap.size W).drew))
  have D0 := Lib.hid (HS.out _ U0.out)
  have HE := Lib.hid hE
  clear hby hM hU hXs hD hE hE1 hT1 hM1 hE2 hT2 hM2 hNl
  by_cases h1 : E = E2
  rotate_left
  · have q1 : ((E : Int) != (E2 : Int)) = true := by simp; omega
    have q1' : (E != E2) = true := by simpa using h1
    go_enter Tryz.func21, Tryz.ntmps21
    go_wp2_with fail
    refine wp_region_held_drew (S := fun Y => Y.cell? ⟨q, 4, none⟩ = some (.int .i64 (T2 : Int)) ∧ Y.cell? ⟨q, 5, none⟩ = some (.int .i64 (E2 : Int))) (by kernel_rfl) D0.out (fun hHeld => ?_)
    change wpAnyH _ _ _ _ _ 23 #[false, false, false, false, false, false, false, false, false, false, false, false, false, false, false, false, false, false, false, false, false, false, false] _ _
    refine takeH 0 10 (v := ?v1) rfl rfl (by kernel_rfl) (by kernel_rfl) (by kernel_rfl) (fun _ _ _ h => h) (Or.inl ⟨by rfl, ?h1⟩) hHeld ?r1
    case h1 =>
      intro w hSw
      obtain ⟨hSw1, hSw2⟩ := hSw
      go_simp
      try with_reducible rfl
    simp only [List.setIfInBounds_toArray, List.set_cons_zero, List.set_cons_succ]
    refine takeH 2 12 (v := ?v2) rfl rfl (by kernel_rfl) (by kernel_rfl) (by kernel_rfl) (fun _ _ _ h => h) (Or.inl ⟨by rfl, ?h2⟩) hHeld ?r2
    case h2 =>
      intro w hSw
      obtain ⟨hSw1, hSw2⟩ := hSw
      go_simp
      try with_reducible rfl
    simp only [List.setIfInBounds_toArray, List.set_cons_zero, List.set_cons_succ]
    refine takeH 3 13 (v := ?v3) rfl rfl (by kernel_rfl) (by kernel_rfl) (by kernel_rfl) (fun _ _ _ h => h) (Or.inl ⟨by rfl, ?h3⟩) hHeld ?r3
    case h3 =>
      intro w hSw
      obtain ⟨hSw1, hSw2⟩ := hSw
      go_simp
      try with_reducible rfl
    simp only [List.setIfInBounds_toArray, List.set_cons_zero, List.set_cons_succ]
    refine takeH 4 14 (v := ?v4) rfl rfl (by kernel_rfl) (by kernel_rfl) (by kernel_rfl) (fun _ _ _ h => h) (Or.inl ⟨by rfl, ?h4⟩) hHeld ?r4
    case h4 =>
      intro w hSw
      obtain ⟨hSw1, hSw2⟩ := hSw
      go_simp
      try with_reducible rfl
    simp only [List.setIfInBounds_toArray, List.set_cons_zero, List.set_cons_succ]
    refine takeH 5 15 (v := ?v5) rfl rfl (by kernel_rfl) (by kernel_rfl) (by kernel_rfl) (fun _ _ _ h => h) (Or.inl ⟨by rfl, ?h5⟩) hHeld ?r5
    case h5 =>
      intro w hSw
      obtain ⟨hSw1, hSw2⟩ := hSw
      go_simp
      try with_reducible rfl
    simp only [List.setIfInBounds_toArray, List.set_cons_zero, List.set_cons_succ]
    refine wpAnyH_ready (rs := [1]) (by kernel_rfl) (by simp) ?_
    refine AllReadyH.cons rfl (fun K hK => ?_) AllReadyH.nil
    go_simp
    (with_reducible refine (CE.out _ U0.out).mono ?_)
    rintro en w1 ⟨rfl, rfl⟩
    refine hK.out _ _ (D0.out) (fun hHeld => ?_)
    clear hK K
    try simp only [List.setIfInBounds_toArray, List.set_cons_zero, List.set_cons_succ]
    refine takeH 6 16 (v := (.bool true)) rfl rfl (by kernel_rfl) (by kernel_rfl) (by kernel_rfl) (fun _ _ _ h => h) (Or.inl ⟨by rfl, ?h6⟩) hHeld ?r6
    case h6 =>
      intro w hSw
      obtain ⟨hSw1, hSw2⟩ := hSw
      go_simp
      try with_reducible rfl
    simp only [List.setIfInBounds_toArray, List.set_cons_zero, List.set_cons_succ]
    refine takeH 7 17 (v := (.bool true)) rfl rfl (by kernel_rfl) (by kernel_rfl) (by kernel_rfl) (fun _ _ _ h => h) (Or.inl ⟨by rfl, ?h7⟩) hHeld ?r7
    case h7 =>
      intro w hSw
      obtain ⟨hSw1, hSw2⟩ := hSw
      go_simp
      try with_reducible rfl
    simp only [List.setIfInBounds_toArray, List.set_cons_zero, List.set_cons_succ]
    refine takeH 8 18 (v := undef) rfl rfl (by kernel_rfl) (by kernel_rfl) (by kernel_rfl) (fun _ _ _ h => h) (Or.inr ⟨by rfl, rfl⟩) hHeld ?_
    simp only [List.setIfInBounds_toArray, List.set_cons_zero, List.set_cons_succ]
    refine takeH 9 19 (v := undef) rfl rfl (by kernel_rfl) (by kernel_rfl) (by kernel_rfl) (fun _ _ _ h => h) (Or.inr ⟨by rfl, rfl⟩) hHeld ?_
    simp only [List.setIfInBounds_toArray, List.set_cons_zero, List.set_cons_succ]
    refine takeH 10 20 (v := undef) rfl rfl (by kernel_rfl) (by kernel_rfl) (by kernel_rfl) (fun _ _ _ h => h) (Or.inr ⟨by rfl, rfl⟩) hHeld ?_
    simp only [List.setIfInBounds_toArray, List.set_cons_zero, List.set_cons_succ]
    refine takeH 11 21 (v := undef) rfl rfl (by kernel_rfl) (by kernel_rfl) (by kernel_rfl) (fun _ _ _ h => h) (Or.inr ⟨by rfl, rfl⟩) hHeld ?_
    simp only [List.setIfInBounds_toArray, List.set_cons_zero, List.set_cons_succ]
    refine takeH 12 22 (v := undef) rfl rfl (by kernel_rfl) (by kernel_rfl) (by kernel_rfl) (fun _ _ _ h => h) (Or.inr ⟨by rfl, rfl⟩) hHeld ?_
    simp only [List.setIfInBounds_toArray, List.set_cons_zero, List.set_cons_succ]
    refine takeH 13 23 (v := undef) rfl rfl (by kernel_rfl) (by kernel_rfl) (by kernel_rfl) (fun _ _ _ h => h) (Or.inr ⟨by rfl, rfl⟩) hHeld ?_
    simp only [List.setIfInBounds_toArray, List.set_cons_zero, List.set_cons_succ]
    refine takeH 14 24 (v := undef) rfl rfl (by kernel_rfl) (by kernel_rfl) (by kernel_rfl) (fun _ _ _ h => h) (Or.inr ⟨by rfl, rfl⟩) hHeld ?_
    simp only [List.setIfInBounds_toArray, List.set_cons_zero, List.set_cons_succ]
    refine takeH 15 25 (v := (.bool true)) rfl rfl (by kernel_rfl) (by kernel_rfl) (by kernel_rfl) (fun _ _ _ h => h) (Or.inl ⟨by rfl, ?h15⟩) hHeld ?r15
    case h15 =>
      intro w hSw
      obtain ⟨hSw1, hSw2⟩ := hSw
      go_simp
      try with_reducible rfl
    simp only [List.setIfInBounds_toArray, List.set_cons_zero, List.set_cons_succ]
    refine takeH 16 26 (v := (.bool true)) rfl rfl (by kernel_rfl) (by kernel_rfl) (by kernel_rfl) (fun _ _ _ h => h) (Or.inl ⟨by rfl, ?h16⟩) hHeld ?r16
    case h16 =>
      intro w hSw
      obtain ⟨hSw1, hSw2⟩ := hSw
      go_simp
      try with_reducible rfl
    simp only [List.setIfInBounds_toArray, List.set_cons_zero, List.set_cons_succ]
    refine takeH 17 27 (v := undef) rfl rfl (by kernel_rfl) (by kernel_rfl) (by kernel_rfl) (fun _ _ _ h => h) (Or.inr ⟨by rfl, rfl⟩) hHeld ?_
    simp only [List.setIfInBounds_toArray, List.set_cons_zero, List.set_cons_succ]
    refine takeH 18 28 (v := undef) rfl rfl (by kernel_rfl) (by kernel_rfl) (by kernel_rfl) (fun _ _ _ h => h) (Or.inr ⟨by rfl, rfl⟩) hHeld ?_
    simp only [List.setIfInBounds_toArray, List.set_cons_zero, List.set_cons_succ]
    refine takeH 19 29 (v := undef) rfl rfl (by kernel_rfl) (by kernel_rfl) (by kernel_rfl) (fun _ _ _ h => h) (Or.inr ⟨by rfl, rfl⟩) hHeld ?_
    simp only [List.setIfInBounds_toArray, List.set_cons_zero, List.set_cons_succ]
    refine takeH 20 30 (v := undef) rfl rfl (by kernel_rfl) (by kernel_rfl) (by kernel_rfl) (fun _ _ _ h => h) (Or.inr ⟨by rfl, rfl⟩) hHeld ?_
    simp only [List.setIfInBounds_toArray, List.set_cons_zero, List.set_cons_succ]
    refine takeH 21 31 (v := undef) rfl rfl (by kernel_rfl) (by kernel_rfl) (by kernel_rfl) (fun _ _ _ h => h) (Or.inr ⟨by rfl, rfl⟩) hHeld ?_
    simp only [List.setIfInBounds_toArray, List.set_cons_zero, List.set_cons_succ]
    refine takeH 22 32 (v := (.bool true)) rfl rfl (by kernel_rfl) (by kernel_rfl) (by kernel_rfl) (fun _ _ _ h => h) (Or.inl ⟨by rfl, ?h22⟩) hHeld ?r22
    case h22 =>
      intro w hSw
      obtain ⟨hSw1, hSw2⟩ := hSw
      go_simp
      try with_reducible rfl
    simp only [List.setIfInBounds_toArray, List.set_cons_zero, List.set_cons_succ]
    refine wpAnyH_done (by kernel_rfl) ?_ _
    go_wp2_with fail
    go_ret
    exact ⟨false, rfl, fun h => absurd (HAg.out h) (fun ⟨e1, e2, e3, _⟩ => by omega), U0.out⟩
  have h1 := h1.symm
  subst h1
  by_cases h2 : T = T2
  rotate_left
  · have q1 : ((T : Int) != (T2 : Int)) = true := by simp; omega
    have q1' : (T != T2) = true := by simpa using h2
    go_enter Tryz.func21, Tryz.ntmps21
    go_wp2_with fail
    refine wp_region_held_drew (S := fun Y => Y.cell? ⟨q, 4, none⟩ = some (.int .i64 (T2 : Int)) ∧ Y.cell? ⟨q, 5, none⟩ = some (.int .i64 (E2 : Int))) (by kernel_rfl) D0.out (fun hHeld => ?_)
    change wpAnyH _ _ _ _ _ 23 #[false, false, false, false, false, false, false, false, false, false, false, false, false, false, false, false, false, false, false, false, false, false, false] _ _
    refine takeH 0 10 (v := ?v23) rfl rfl (by kernel_rfl) (by kernel_rfl) (by kernel_rfl) (fun _ _ _ h => h) (Or.inl ⟨by rfl, ?h23⟩) hHeld ?r23
    case h23 =>
      intro w hSw
      obtain ⟨hSw1, hSw2⟩ := hSw
      go_simp
      try with_reducible rfl
    simp only [List.setIfInBounds_toArray, List.set_cons_zero, List.set_cons_succ]
    refine takeH 2 12 (v := ?v24) rfl rfl (by kernel_rfl) (by kernel_rfl) (by kernel_rfl) (fun _ _ _ h => h) (Or.inl ⟨by rfl, ?h24⟩) hHeld ?r24
    case h24 =>
      intro w hSw
      obtain ⟨hSw1, hSw2⟩ := hSw
      go_simp
      try with_reducible rfl
    simp only [List.setIfInBounds_toArray, List.set_cons_zero, List.set_cons_succ]
    refine takeH 3 13 (v := ?v25) rfl rfl (by kernel_rfl) (by kernel_rfl) (by kernel_rfl) (fun _ _ _ h => h) (Or.inl ⟨by rfl, ?h25⟩) hHeld ?r25
    case h25 =>
      intro w hSw
      obtain ⟨hSw1, hSw2⟩ := hSw
      go_simp
      try with_reducible rfl
    simp only [List.setIfInBounds_toArray, List.set_cons_zero, List.set_cons_succ]
    refine takeH 4 14 (v := ?v26) rfl rfl (by kernel_rfl) (by kernel_rfl) (by kernel_rfl) (fun _ _ _ h => h) (Or.inl ⟨by rfl, ?h26⟩) hHeld ?r26
    case h26 =>
      intro w hSw
      obtain ⟨hSw1, hSw2⟩ := hSw
      go_simp
      try with_reducible rfl
    simp only [List.setIfInBounds_toArray, List.set_cons_zero, List.set_cons_succ]
    refine takeH 5 15 (v := ?v27) rfl rfl (by kernel_rfl) (by kernel_rfl) (by kernel_rfl) (fun _ _ _ h => h) (Or.inl ⟨by rfl, ?h27⟩) hHeld ?r27
    case h27 =>
      intro w hSw
      obtain ⟨hSw1, hSw2⟩ := hSw
      go_simp
      try with_reducible rfl
    simp only [List.setIfInBounds_toArray, List.set_cons_zero, List.set_cons_succ]
    refine wpAnyH_ready (rs := [1]) (by kernel_rfl) (by simp) ?_
    refine AllReadyH.cons rfl (fun K hK => ?_) AllReadyH.nil
    go_simp
    (with_reducible refine (CE.out _ U0.out).mono ?_)
    rintro en w1 ⟨rfl, rfl⟩
    refine hK.out _ _ (D0.out) (fun hHeld => ?_)
    clear hK K
    try simp only [List.setIfInBounds_toArray, List.set_cons_zero, List.set_cons_succ]
    refine takeH 6 16 (v := (.bool false)) rfl rfl (by kernel_rfl) (by kernel_rfl) (by kernel_rfl) (fun _ _ _ h => h) (Or.inl ⟨by rfl, ?h28⟩) hHeld ?r28
    case h28 =>
      intro w hSw
      obtain ⟨hSw1, hSw2⟩ := hSw
      go_simp
      try with_reducible rfl
    simp only [List.setIfInBounds_toArray, List.set_cons_zero, List.set_cons_succ]
    refine takeH 7 17 (v := (.bool false)) rfl rfl (by kernel_rfl) (by kernel_rfl) (by kernel_rfl) (fun _ _ _ h => h) (Or.inl ⟨by rfl, ?h29⟩) hHeld ?r29
    case h29 =>
      intro w hSw
      obtain ⟨hSw1, hSw2⟩ := hSw
      go_simp
      try with_reducible rfl
    simp only [List.setIfInBounds_toArray, List.set_cons_zero, List.set_cons_succ]
    refine takeH 8 18 (v := ?v30) rfl rfl (by kernel_rfl) (by kernel_rfl) (by kernel_rfl) (fun _ _ _ h => h) (Or.inl ⟨by rfl, ?h30⟩) hHeld ?r30
    case h30 =>
      intro w hSw
      obtain ⟨hSw1, hSw2⟩ := hSw
      go_simp
      try with_reducible rfl
    simp only [List.setIfInBounds_toArray, List.set_cons_zero, List.set_cons_succ]
    refine takeH 10 20 (v := ?v31) rfl rfl (by kernel_rfl) (by kernel_rfl) (by kernel_rfl) (fun _ _ _ h => h) (Or.inl ⟨by rfl, ?h31⟩) hHeld ?r31
    case h31 =>
      intro w hSw
      obtain ⟨hSw1, hSw2⟩ := hSw
      go_simp
      try with_reducible rfl
    simp only [List.setIfInBounds_toArray, List.set_cons_zero, List.set_cons_succ]
    refine takeH 11 21 (v := ?v32) rfl rfl (by kernel_rfl) (by kernel_rfl) (by kernel_rfl) (fun _ _ _ h => h) (Or.inl ⟨by rfl, ?h32⟩) hHeld ?r32
    case h32 =>
      intro w hSw
      obtain ⟨hSw1, hSw2⟩ := hSw
      go_simp
      try with_reducible rfl
    simp only [List.setIfInBounds_toArray, List.set_cons_zero, List.set_cons_succ]
    refine takeH 12 22 (v := ?v33) rfl rfl (by kernel_rfl) (by kernel_rfl) (by kernel_rfl) (fun _ _ _ h => h) (Or.inl ⟨by rfl, ?h33⟩) hHeld ?r33
    case h33 =>
      intro w hSw
      obtain ⟨hSw1, hSw2⟩ := hSw
      go_simp
      try with_reducible rfl
    simp only [List.setIfInBounds_toArray, List.set_cons_zero, List.set_cons_succ]
    refine takeH 13 23 (v := ?v34) rfl rfl (by kernel_rfl) (by kernel_rfl) (by kernel_rfl) (fun _ _ _ h => h) (Or.inl ⟨by rfl, ?h34⟩) hHeld ?r34
    case h34 =>
      intro w hSw
      obtain ⟨hSw1, hSw2⟩ := hSw
      go_simp
      try with_reducible rfl
    simp only [List.setIfInBounds_toArray, List.set_cons_zero, List.set_cons_succ]
    refine wpAnyH_ready (rs := [9]) (by kernel_rfl) (by simp) ?_
    refine AllReadyH.cons rfl (fun K hK => ?_) AllReadyH.nil
    go_simp
    (with_reducible refine (CT.out _ U0.out).mono ?_)
    rintro en w1 ⟨rfl, rfl⟩
    refine hK.out _ _ (D0.out) (fun hHeld => ?_)
    clear hK K
    try simp only [List.setIfInBounds_toArray, List.set_cons_zero, List.set_cons_succ]
    refine takeH 14 24 (v := (.bool true)) rfl rfl (by kernel_rfl) (by kernel_rfl) (by kernel_rfl) (fun _ _ _ h => h) (Or.inl ⟨by rfl, ?h35⟩) hHeld ?r35
    case h35 =>
      intro w hSw
      obtain ⟨hSw1, hSw2⟩ := hSw
      go_simp
      try with_reducible rfl
    simp only [List.setIfInBounds_toArray, List.set_cons_zero, List.set_cons_succ]
    refine takeH 15 25 (v := (.bool true)) rfl rfl (by kernel_rfl) (by kernel_rfl) (by kernel_rfl) (fun _ _ _ h => h) (Or.inl ⟨by rfl, ?h36⟩) hHeld ?r36
    case h36 =>
      intro w hSw
      obtain ⟨hSw1, hSw2⟩ := hSw
      go_simp
      try with_reducible rfl
    simp only [List.setIfInBounds_toArray, List.set_cons_zero, List.set_cons_succ]
    refine takeH 16 26 (v := (.bool true)) rfl rfl (by kernel_rfl) (by kernel_rfl) (by kernel_rfl) (fun _ _ _ h => h) (Or.inl ⟨by rfl, ?h37⟩) hHeld ?r37
    case h37 =>
      intro w hSw
      obtain ⟨hSw1, hSw2⟩ := hSw
      go_simp
      try with_reducible rfl
    simp only [List.setIfInBounds_toArray, List.set_cons_zero, List.set_cons_succ]
    refine takeH 17 27 (v := undef) rfl rfl (by kernel_rfl) (by kernel_rfl) (by kernel_rfl) (fun _ _ _ h => h) (Or.inr ⟨by rfl, rfl⟩) hHeld ?_
    simp only [List.setIfInBounds_toArray, List.set_cons_zero, List.set_cons_succ]
    refine takeH 18 28 (v := undef) rfl rfl (by kernel_rfl) (by kernel_rfl) (by kernel_rfl) (fun _ _ _ h => h) (Or.inr ⟨by rfl, rfl⟩) hHeld ?_
    simp only [List.setIfInBounds_toArray, List.set_cons_zero, List.set_cons_succ]
    refine takeH 19 29 (v := undef) rfl rfl (by kernel_rfl) (by kernel_rfl) (by kernel_rfl) (fun _ _ _ h => h) (Or.inr ⟨by rfl, rfl⟩) hHeld ?_
    simp only [List.setIfInBounds_toArray, List.set_cons_zero, List.set_cons_succ]
    refine takeH 20 30 (v := undef) rfl rfl (by kernel_rfl) (by kernel_rfl) (by kernel_rfl) (fun _ _ _ h => h) (Or.inr ⟨by rfl, rfl⟩) hHeld ?_
    simp only [List.setIfInBounds_toArray, List.set_cons_zero, List.set_cons_succ]
    refine takeH 21 31 (v := undef) rfl rfl (by kernel_rfl) (by kernel_rfl) (by kernel_rfl) (fun _ _ _ h => h) (Or.inr ⟨by rfl, rfl⟩) hHeld ?_
    simp only [List.setIfInBounds_toArray, List.set_cons_zero, List.set_cons_succ]
    refine takeH 22 32 (v := (.bool true)) rfl rfl (by kernel_rfl) (by kernel_rfl) (by kernel_rfl) (fun _ _ _ h => h) (Or.inl ⟨by rfl, ?h43⟩) hHeld ?r43
    case h43 =>
      intro w hSw
      obtain ⟨hSw1, hSw2⟩ := hSw
      go_simp
      try with_reducible rfl
    simp only [List.setIfInBounds_toArray, List.set_cons_zero, List.set_cons_succ]
    refine wpAnyH_done (by kernel_rfl) ?_ _
    go_wp2_with fail
    go_ret
    exact ⟨false, rfl, fun h => absurd (HAg.out h) (fun ⟨e1, e2, e3, _⟩ => by omega), U0.out⟩
  have h2 := h2.symm
  subst h2
  by_cases h3 : M = M2
  rotate_left
  · have q1 : ((M : Int) != (M2 : Int)) = true := by simp; omega
    have q1' : (M != M2) = true := by simpa using h3
    go_enter Tryz.func21, Tryz.ntmps21
    go_wp2_with fail
    refine wp_region_held_drew (S := fun Y => Y.cell? ⟨q, 4, none⟩ = some (.int .i64 (T2 : Int)) ∧ Y.cell? ⟨q, 5, none⟩ = some (.int .i64 (E2 : Int))) (by kernel_rfl) D0.out (fun hHeld => ?_)
    change wpAnyH _ _ _ _ _ 23 #[false, false, false, false, false, false, false, false, false, false, false, false, false, false, false, false, false, false, false, false, false, false, false] _ _
    refine takeH 0 10 (v := ?v44) rfl rfl (by kernel_rfl) (by kernel_rfl) (by kernel_rfl) (fun _ _ _ h => h) (Or.inl ⟨by rfl, ?h44⟩) hHeld ?r44
    case h44 =>
      intro w hSw
      obtain ⟨hSw1, hSw2⟩ := hSw
      go_simp
      try with_reducible rfl
    simp only [List.setIfInBounds_toArray, List.set_cons_zero, List.set_cons_succ]
    refine takeH 2 12 (v := ?v45) rfl rfl (by kernel_rfl) (by kernel_rfl) (by kernel_rfl) (fun _ _ _ h => h) (Or.inl ⟨by rfl, ?h45⟩) hHeld ?r45
    case h45 =>
      intro w hSw
      obtain ⟨hSw1, hSw2⟩ := hSw
      go_simp
      try with_reducible rfl
    simp only [List.setIfInBounds_toArray, List.set_cons_zero, List.set_cons_succ]
    refine takeH 3 13 (v := ?v46) rfl rfl (by kernel_rfl) (by kernel_rfl) (by kernel_rfl) (fun _ _ _ h => h) (Or.inl ⟨by rfl, ?h46⟩) hHeld ?r46
    case h46 =>
      intro w hSw
      obtain ⟨hSw1, hSw2⟩ := hSw
      go_simp
      try with_reducible rfl
    simp only [List.setIfInBounds_toArray, List.set_cons_zero, List.set_cons_succ]
    refine takeH 4 14 (v := ?v47) rfl rfl (by kernel_rfl) (by kernel_rfl) (by kernel_rfl) (fun _ _ _ h => h) (Or.inl ⟨by rfl, ?h47⟩) hHeld ?r47
    case h47 =>
      intro w hSw
      obtain ⟨hSw1, hSw2⟩ := hSw
      go_simp
      try with_reducible rfl
    simp only [List.setIfInBounds_toArray, List.set_cons_zero, List.set_cons_succ]
    refine takeH 5 15 (v := ?v48) rfl rfl (by kernel_rfl) (by kernel_rfl) (by kernel_rfl) (fun _ _ _ h => h) (Or.inl ⟨by rfl, ?h48⟩) hHeld ?r48
    case h48 =>
      intro w hSw
      obtain ⟨hSw1, hSw2⟩ := hSw
      go_simp
      try with_reducible rfl
    simp only [List.setIfInBounds_toArray, List.set_cons_zero, List.set_cons_succ]
    refine wpAnyH_ready (rs := [1]) (by kernel_rfl) (by simp) ?_
    refine AllReadyH.cons rfl (fun K hK => ?_) AllReadyH.nil
    go_simp
    (with_reducible refine (CE.out _ U0.out).mono ?_)
    rintro en w1 ⟨rfl, rfl⟩
    refine hK.out _ _ (D0.out) (fun hHeld => ?_)
    clear hK K
    try simp only [List.setIfInBounds_toArray, List.set_cons_zero, List.set_cons_succ]
    refine takeH 6 16 (v := (.bool false)) rfl rfl (by kernel_rfl) (by kernel_rfl) (by kernel_rfl) (fun _ _ _ h => h) (Or.inl ⟨by rfl, ?h49⟩) hHeld ?r49
    case h49 =>
      intro w hSw
      obtain ⟨hSw1, hSw2⟩ := hSw
      go_simp
      try with_reducible rfl
    simp only [List.setIfInBounds_toArray, List.set_cons_zero, List.set_cons_succ]
    refine takeH 7 17 (v := (.bool false)) rfl rfl (by kernel_rfl) (by kernel_rfl) (by kernel_rfl) (fun _ _ _ h => h) (Or.inl ⟨by rfl, ?h50⟩) hHeld ?r50
    case h50 =>
      intro w hSw
      obtain ⟨hSw1, hSw2⟩ := hSw
      go_simp
      try with_reducible rfl
    simp only [List.setIfInBounds_toArray, List.set_cons_zero, List.set_cons_succ]
    refine takeH 8 18 (v := ?v51) rfl rfl (by kernel_rfl) (by kernel_rfl) (by kernel_rfl) (fun _ _ _ h => h) (Or.inl ⟨by rfl, ?h51⟩) hHeld ?r51
    case h51 =>
      intro w hSw
      obtain ⟨hSw1, hSw2⟩ := hSw
      go_simp
      try with_reducible rfl
    simp only [List.setIfInBounds_toArray, List.set_cons_zero, List.set_cons_succ]
    refine takeH 10 20 (v := ?v52) rfl rfl (by kernel_rfl) (by kernel_rfl) (by kernel_rfl) (fun _ _ _ h => h) (Or.inl ⟨by rfl, ?h52⟩) hHeld ?r52
    case h52 =>
      intro w hSw
      obtain ⟨hSw1, hSw2⟩ := hSw
      go_simp
      try with_reducible rfl
    simp only [List.setIfInBounds_toArray, List.set_cons_zero, List.set_cons_succ]
    refine takeH 11 21 (v := ?v53) rfl rfl (by kernel_rfl) (by kernel_rfl) (by kernel_rfl) (fun _ _ _ h => h) (Or.inl ⟨by rfl, ?h53⟩) hHeld ?r53
    case h53 =>
      intro w hSw
      obtain ⟨hSw1, hSw2⟩ := hSw
      go_simp
      try with_reducible rfl
    simp only [List.setIfInBounds_toArray, List.set_cons_zero, List.set_cons_succ]
    refine takeH 12 22 (v := ?v54) rfl rfl (by kernel_rfl) (by kernel_rfl) (by kernel_rfl) (fun _ _ _ h => h) (Or.inl ⟨by rfl, ?h54⟩) hHeld ?r54
    case h54 =>
      intro w hSw
      obtain ⟨hSw1, hSw2⟩ := hSw
      go_simp
      try with_reducible rfl
    simp only [List.setIfInBounds_toArray, List.set_cons_zero, List.set_cons_succ]
    refine takeH 13 23 (v := ?v55) rfl rfl (by kernel_rfl) (by kernel_rfl) (by kernel_rfl) (fun _ _ _ h => h) (Or.inl ⟨by rfl, ?h55⟩) hHeld ?r55
    case h55 =>
      intro w hSw
      obtain ⟨hSw1, hSw2⟩ := hSw
      go_simp
      try with_reducible rfl
    simp only [List.setIfInBounds_toArray, List.set_cons_zero, List.set_cons_succ]
    refine wpAnyH_ready (rs := [9]) (by kernel_rfl) (by simp) ?_
    refine AllReadyH.cons rfl (fun K hK => ?_) AllReadyH.nil
    go_simp
    (with_reducible refine (CT.out _ U0.out).mono ?_)
    rintro en w1 ⟨rfl, rfl⟩
    refine hK.out _ _ (D0.out) (fun hHeld => ?_)
    clear hK K
    try simp only [List.setIfInBounds_toArray, List.set_cons_zero, List.set_cons_succ]
    refine takeH 14 24 (v := (.bool false)) rfl rfl (by kernel_rfl) (by kernel_rfl) (by kernel_rfl) (fun _ _ _ h => h) (Or.inl ⟨by rfl, ?h56⟩) hHeld ?r56
    case h56 =>
      intro w hSw
      obtain ⟨hSw1, hSw2⟩ := hSw
      go_simp
      try with_reducible rfl
    simp only [List.setIfInBounds_toArray, List.set_cons_zero, List.set_cons_succ]
    refine takeH 15 25 (v := (.bool false)) rfl rfl (by kernel_rfl) (by kernel_rfl) (by kernel_rfl) (fun _ _ _ h => h) (Or.inl ⟨by rfl, ?h57⟩) hHeld ?r57
    case h57 =>
      intro w hSw
      obtain ⟨hSw1, hSw2⟩ := hSw
      go_simp
      try with_reducible rfl
    simp only [List.setIfInBounds_toArray, List.set_cons_zero, List.set_cons_succ]
    refine takeH 16 26 (v := (.bool false)) rfl rfl (by kernel_rfl) (by kernel_rfl) (by kernel_rfl) (fun _ _ _ h => h) (Or.inl ⟨by rfl, ?h58⟩) hHeld ?r58
    case h58 =>
      intro w hSw
      obtain ⟨hSw1, hSw2⟩ := hSw
      go_simp
      try with_reducible rfl
    simp only [List.setIfInBounds_toArray, List.set_cons_zero, List.set_cons_succ]
    refine takeH 17 27 (v := ?v59) rfl rfl (by kernel_rfl) (by kernel_rfl) (by kernel_rfl) (fun _ _ _ h => h) (Or.inl ⟨by rfl, ?h59⟩) hHeld ?r59
    case h59 =>
      intro w hSw
      obtain ⟨hSw1, hSw2⟩ := hSw
      go_simp
      try with_reducible rfl
    simp only [List.setIfInBounds_toArray, List.set_cons_zero, List.set_cons_succ]
    refine takeH 19 29 (v := ?v60) rfl rfl (by kernel_rfl) (by kernel_rfl) (by kernel_rfl) (fun _ _ _ h => h) (Or.inl ⟨by rfl, ?h60⟩) hHeld ?r60
    case h60 =>
      intro w hSw
      obtain ⟨hSw1, hSw2⟩ := hSw
      go_simp
      try with_reducible rfl
    simp only [List.setIfInBounds_toArray, List.set_cons_zero, List.set_cons_succ]
    refine wpAnyH_ready (rs := [18]) (by kernel_rfl) (by simp) ?_
    refine AllReadyH.cons rfl (fun K hK => ?_) AllReadyH.nil
    go_simp
    (with_reducible refine (CA.out _ U0.out).mono ?_)
    rintro en w3 ⟨rfl, hU3⟩
    have U3 := Lib.hid hU3
    refine hK.out _ _ (HS.out _ U3.out) (fun hHeld => ?_)
    clear hK K
    try simp only [List.setIfInBounds_toArray, List.set_cons_zero, List.set_cons_succ]
    refine wpAnyH_ready (rs := [20]) (by kernel_rfl) (by simp) ?_
    refine AllReadyH.cons rfl (fun K hK => ?_) AllReadyH.nil
    go_simp
    (with_reducible refine (CR.out _ U3.out).mono ?_)
    rintro en w4 ⟨rfl, hU4⟩
    have U4 := Lib.hid hU4
    refine hK.out _ _ (HS.out _ U4.out) (fun hHeld => ?_)
    clear hK K
    try simp only [List.setIfInBounds_toArray, List.set_cons_zero, List.set_cons_succ]
    refine takeH 21 31 (v := (.bool true)) rfl rfl (by kernel_rfl) (by kernel_rfl) (by kernel_rfl) (fun _ _ _ h => h) (Or.inl ⟨by rfl, ?h61⟩) hHeld ?r61
    case h61 =>
      intro w hSw
      obtain ⟨hSw1, hSw2⟩ := hSw
      go_simp
      try with_reducible rfl
    simp only [List.setIfInBounds_toArray, List.set_cons_zero, List.set_cons_succ]
    refine takeH 22 32 (v := (.bool true)) rfl rfl (by kernel_rfl) (by kernel_rfl) (by kernel_rfl) (fun _ _ _ h => h) (Or.inl ⟨by rfl, ?h62⟩) hHeld ?r62
    case h62 =>
      intro w hSw
      obtain ⟨hSw1, hSw2⟩ := hSw
      go_simp
      try with_reducible rfl
    simp only [List.setIfInBounds_toArray, List.set_cons_zero, List.set_cons_succ]
    refine wpAnyH_done (by kernel_rfl) ?_ _
    go_wp2_with fail
    go_ret
    exact ⟨false, rfl, fun h => absurd (HAg.out h) (fun ⟨e1, e2, e3, _⟩ => by omega), U4.out⟩
  have h3 := h3.symm
  subst h3
  go_enter Tryz.func21, Tryz.ntmps21
  go_wp2_with fail
  refine wp_region_held_drew (S := fun Y => Y.cell? ⟨q, 4, none⟩ = some (.int .i64 (T2 : Int)) ∧ Y.cell? ⟨q, 5, none⟩ = some (.int .i64 (E2 : Int))) (by kernel_rfl) D0.out (fun hHeld => ?_)
  change wpAnyH _ _ _ _ _ 23 #[false, false, false, false, false, false, false, false, false, false, false, false, false, false, false, false, false, false, false, false, false, false, false] _ _
  refine takeH 0 10 (v := ?v63) rfl rfl (by kernel_rfl) (by kernel_rfl) (by kernel_rfl) (fun _ _ _ h => h) (Or.inl ⟨by rfl, ?h63⟩) hHeld ?r63
  case h63 =>
    intro w hSw
    obtain ⟨hSw1, hSw2⟩ := hSw
    go_simp
    try with_reducible rfl
  simp only [List.setIfInBounds_toArray, List.set_cons_zero, List.set_cons_succ]
  refine takeH 2 12 (v := ?v64) rfl rfl (by kernel_rfl) (by kernel_rfl) (by kernel_rfl) (fun _ _ _ h => h) (Or.inl ⟨by rfl, ?h64⟩) hHeld ?r64
  case h64 =>
    intro w hSw
    obtain ⟨hSw1, hSw2⟩ := hSw
    go_simp
    try with_reducible rfl
  simp only [List.setIfInBounds_toArray, List.set_cons_zero, List.set_cons_succ]
  refine takeH 3 13 (v := ?v65) rfl rfl (by kernel_rfl) (by kernel_rfl) (by kernel_rfl) (fun _ _ _ h => h) (Or.inl ⟨by rfl, ?h65⟩) hHeld ?r65
  case h65 =>
    intro w hSw
    obtain ⟨hSw1, hSw2⟩ := hSw
    go_simp
    try with_reducible rfl
  simp only [List.setIfInBounds_toArray, List.set_cons_zero, List.set_cons_succ]
  refine takeH 4 14 (v := ?v66) rfl rfl (by kernel_rfl) (by kernel_rfl) (by kernel_rfl) (fun _ _ _ h => h) (Or.inl ⟨by rfl, ?h66⟩) hHeld ?r66
  case h66 =>
    intro w hSw
    obtain ⟨hSw1, hSw2⟩ := hSw
    go_simp
    try with_reducible rfl
  simp only [List.setIfInBounds_toArray, List.set_cons_zero, List.set_cons_succ]
  refine takeH 5 15 (v := ?v67) rfl rfl (by kernel_rfl) (by kernel_rfl) (by kernel_rfl) (fun _ _ _ h => h) (Or.inl ⟨by rfl, ?h67⟩) hHeld ?r67
  case h67 =>
    intro w hSw
    obtain ⟨hSw1, hSw2⟩ := hSw
    go_simp
    try with_reducible rfl
  simp only [List.setIfInBounds_toArray, List.set_cons_zero, List.set_cons_succ]
  refine wpAnyH_ready (rs := [1]) (by kernel_rfl) (by simp) ?_
  refine AllReadyH.cons rfl (fun K hK => ?_) AllReadyH.nil
  go_simp
  (with_reducible refine (CE.out _ U0.out).mono ?_)
  rintro en w1 ⟨rfl, rfl⟩
  refine hK.out _ _ (D0.out) (fun hHeld => ?_)
  clear hK K
  try simp only [List.setIfInBounds_toArray, List.set_cons_zero, List.set_cons_succ]
  refine takeH 6 16 (v := (.bool false)) rfl rfl (by kernel_rfl) (by kernel_rfl) (by kernel_rfl) (fun _ _ _ h => h) (Or.inl ⟨by rfl, ?h68⟩) hHeld ?r68
  case h68 =>
    intro w hSw
    obtain ⟨hSw1, hSw2⟩ := hSw
    go_simp
    try with_reducible rfl
  simp only [List.setIfInBounds_toArray, List.set_cons_zero, List.set_cons_succ]
  refine takeH 7 17 (v := (.bool false)) rfl rfl (by kernel_rfl) (by kernel_rfl) (by kernel_rfl) (fun _ _ _ h => h) (Or.inl ⟨by rfl, ?h69⟩) hHeld ?r69
  case h69 =>
    intro w hSw
    obtain ⟨hSw1, hSw2⟩ := hSw
    go_simp
    try with_reducible rfl
  simp only [List.setIfInBounds_toArray, List.set_cons_zero, List.set_cons_succ]
  refine takeH 8 18 (v := ?v70) rfl rfl (by kernel_rfl) (by kernel_rfl) (by kernel_rfl) (fun _ _ _ h => h) (Or.inl ⟨by rfl, ?h70⟩) hHeld ?r70
  case h70 =>
    intro w hSw
    obtain ⟨hSw1, hSw2⟩ := hSw
    go_simp
    try with_reducible rfl
  simp only [List.setIfInBounds_toArray, List.set_cons_zero, List.set_cons_succ]
  refine takeH 10 20 (v := ?v71) rfl rfl (by kernel_rfl) (by kernel_rfl) (by kernel_rfl) (fun _ _ _ h => h) (Or.inl ⟨by rfl, ?h71⟩) hHeld ?r71
  case h71 =>
    intro w hSw
    obtain ⟨hSw1, hSw2⟩ := hSw
    go_simp
    try with_reducible rfl
  simp only [List.setIfInBounds_toArray, List.set_cons_zero, List.set_cons_succ]
  refine takeH 11 21 (v := ?v72) rfl rfl (by kernel_rfl) (by kernel_rfl) (by kernel_rfl) (fun _ _ _ h => h) (Or.inl ⟨by rfl, ?h72⟩) hHeld ?r72
  case h72 =>
    intro w hSw
    obtain ⟨hSw1, hSw2⟩ := hSw
    go_simp
    try with_reducible rfl
  simp only [List.setIfInBounds_toArray, List.set_cons_zero, List.set_cons_succ]
  refine takeH 12 22 (v := ?v73) rfl rfl (by kernel_rfl) (by kernel_rfl) (by kernel_rfl) (fun _ _ _ h => h) (Or.inl ⟨by rfl, ?h73⟩) hHeld ?r73
  case h73 =>
    intro w hSw
    obtain ⟨hSw1, hSw2⟩ := hSw
    go_simp
    try with_reducible rfl
  simp only [List.setIfInBounds_toArray, List.set_cons_zero, List.set_cons_succ]
  refine takeH 13 23 (v := ?v74) rfl rfl (by kernel_rfl) (by kernel_rfl) (by kernel_rfl) (fun _ _ _ h => h) (Or.inl ⟨by rfl, ?h74⟩) hHeld ?r74
  case h74 =>
    intro w hSw
    obtain ⟨hSw1, hSw2⟩ := hSw
    go_simp
    try with_reducible rfl
  simp only [List.setIfInBounds_toArray, List.set_cons_zero, List.set_cons_succ]
  refine wpAnyH_ready (rs := [9]) (by kernel_rfl) (by simp) ?_
  refine AllReadyH.cons rfl (fun K hK => ?_) AllReadyH.nil
  go_simp
  (with_reducible refine (CT.out _ U0.out).mono ?_)
  rintro en w1 ⟨rfl, rfl⟩
  refine hK.out _ _ (D0.out) (fun hHeld => ?_)
  clear hK K
  try simp only [List.setIfInBounds_toArray, List.set_cons_zero, List.set_cons_succ]
  refine takeH 14 24 (v := (.bool false)) rfl rfl (by kernel_rfl) (by kernel_rfl) (by kernel_rfl) (fun _ _ _ h => h) (Or.inl ⟨by rfl, ?h75⟩) hHeld ?r75
  case h75 =>
    intro w hSw
    obtain ⟨hSw1, hSw2⟩ := hSw
    go_simp
    try with_reducible rfl
  simp only [List.setIfInBounds_toArray, List.set_cons_zero, List.set_cons_succ]
  refine takeH 15 25 (v := (.bool false)) rfl rfl (by kernel_rfl) (by kernel_rfl) (by kernel_rfl) (fun _ _ _ h => h) (Or.inl ⟨by rfl, ?h76⟩) hHeld ?r76
  case h76 =>
    intro w hSw
    obtain ⟨hSw1, hSw2⟩ := hSw
    go_simp
    try with_reducible rfl
  simp only [List.setIfInBounds_toArray, List.set_cons_zero, List.set_cons_succ]
  refine takeH 16 26 (v := (.bool false)) rfl rfl (by kernel_rfl) (by kernel_rfl) (by kernel_rfl) (fun _ _ _ h => h) (Or.inl ⟨by rfl, ?h77⟩) hHeld ?r77
  case h77 =>
    intro w hSw
    obtain ⟨hSw1, hSw2⟩ := hSw
    go_simp
    try with_reducible rfl
  simp only [List.setIfInBounds_toArray, List.set_cons_zero, List.set_cons_succ]
  refine takeH 17 27 (v := ?v78) rfl rfl (by kernel_rfl) (by kernel_rfl) (by kernel_rfl) (fun _ _ _ h => h) (Or.inl ⟨by rfl, ?h78⟩) hHeld ?r78
  case h78 =>
    intro w hSw
    obtain ⟨hSw1, hSw2⟩ := hSw
    go_simp
    try with_reducible rfl
  simp only [List.setIfInBounds_toArray, List.set_cons_zero, List.set_cons_succ]
  refine takeH 19 29 (v := ?v79) rfl rfl (by kernel_rfl) (by kernel_rfl) (by kernel_rfl) (fun _ _ _ h => h) (Or.inl ⟨by rfl, ?h79⟩) hHeld ?r79
  case h79 =>
    intro w hSw
    obtain ⟨hSw1, hSw2⟩ := hSw
    go_simp
    try with_reducible rfl
  simp only [List.setIfInBounds_toArray, List.set_cons_zero, List.set_cons_succ]
  refine wpAnyH_ready (rs := [18]) (by kernel_rfl) (by simp) ?_
  refine AllReadyH.cons rfl (fun K hK => ?_) AllReadyH.nil
  go_simp
  (with_reducible refine (CA.out _ U0.out).mono ?_)
  rintro en w3 ⟨rfl, hU3⟩
  have U3 := Lib.hid hU3
  refine hK.out _ _ (HS.out _ U3.out) (fun hHeld => ?_)
  clear hK K
  try simp only [List.setIfInBounds_toArray, List.set_cons_zero, List.set_cons_succ]
  refine wpAnyH_ready (rs := [20]) (by kernel_rfl) (by simp) ?_
  refine AllReadyH.cons rfl (fun K hK => ?_) AllReadyH.nil
  go_simp
  (with_reducible refine (CR.out _ U3.out).mono ?_)
  rintro en w4 ⟨rfl, hU4⟩
  have U4 := Lib.hid hU4
  refine hK.out _ _ (HS.out _ U4.out) (fun hHeld => ?_)
  clear hK K
  try simp only [List.setIfInBounds_toArray, List.set_cons_zero, List.set_cons_succ]
  refine takeH 21 31 (v := (.bool false)) rfl rfl (by kernel_rfl) (by kernel_rfl) (by kernel_rfl) (fun _ _ _ h => h) (Or.inl ⟨by rfl, ?h80⟩) hHeld ?r80
  case h80 =>
    intro w hSw
    obtain ⟨hSw1, hSw2⟩ := hSw
    go_simp
    try with_reducible rfl
  simp only [List.setIfInBounds_toArray, List.set_cons_zero, List.set_cons_succ]
  refine takeH 22 32 (v := (.bool false)) rfl rfl (by kernel_rfl) (by kernel_rfl) (by kernel_rfl) (fun _ _ _ h => h) (Or.inl ⟨by rfl, ?h81⟩) hHeld ?r81
  case h81 =>
    intro w hSw
    obtain ⟨hSw1, hSw2⟩ := hSw
    go_simp
    try with_reducible rfl
  simp only [List.setIfInBounds_toArray, List.set_cons_zero, List.set_cons_succ]
  refine wpAnyH_done (by kernel_rfl) ?_ _
  clear CE CT CA CR D0 U0 U3
  go_wp2_with fail
  go_loopw [33] (fun i wr => ∃ k : Nat, i = .int .i64 k ∧ k ≤ 14 ∧ Hid (UL D w FX X g p bm dev n N u wr)) (fun i _ => 14 - (intOf i).toNat)
  case atStart => exact ⟨0, rfl, by omega, U4⟩
  case round =>
    obtain ⟨k, rfl, hk, hU⟩ := hrel
    by_cases hlt : k < 14
    rotate_left
    · have q2 : decide ((k : Int) < 14) = false := decide_eq_false (by omega)
      have q2' : decide (k < 14) = false := decide_eq_false hlt
      clear hlt
      go_wp2_with fail
      go_ret
      exact ⟨true, rfl, fun _ => rfl, hU.out⟩
    have q2 : decide ((k : Int) < 14) = true := decide_eq_true (by omega)
    have q2' : decide (k < 14) = true := decide_eq_true hlt
    obtain ⟨d4, d5⟩ := HS.out _ hU.out
    have C1 := Lib.hid (CRd.out _ hU.out k)
    have C2 := Lib.hid (fun Y hY => CRr.out Y hY k)
    have HAk := Lib.hid (show Agree u ur → readU u E2 k = readU ur E2 k from fun h => (HAg.out h).2.2.2 k)
    obtain ⟨x1, hx1⟩ : ∃ x, readU u E2 k = x := ⟨_, rfl⟩
    obtain ⟨x2, hx2⟩ : ∃ x, readU ur E2 k = x := ⟨_, rfl⟩
    rw [hx1] at C1 HAk
    rw [hx2] at C2 HAk
    obtain ⟨l1, r1⟩ := x1
    obtain ⟨l2, r2⟩ := x2
    dsimp only at C1 C2
    clear hx1 hx2
    go_wp2_with fail
    refine C1.out.mono ?_
    rintro en w5 ⟨v, x, rfl, hv, hx, hU5⟩
    obtain ⟨A1, c1, rfl, _, _, _⟩ := hv.form
    have HV := Lib.hid hv
    have U5 := Lib.hid hU5
    have HIx := Lib.hid hx
    clear d4 d5 hv hU5 hx C1
    obtain ⟨d4, d5⟩ := HS.out _ U5.out
    go_wp2_with fail
    refine (C2.out _ U5.out).mono ?_
    rintro en w6 ⟨v, rfl, hv, hb6, hU6⟩
    obtain ⟨A2, c2, rfl, _, _, _⟩ := hv.form
    have cv1 := conv_bytes (HV.out.below hb6)
    have cv2 := conv_bytes hv
    have U6 := Lib.hid hU6
    have CN := Lib.hid (num_any a x r1 w6 (HE.out.below hU6.since) HIx.out)
    clear d4 d5 hv hU6 hb6 C2
    by_cases hl : l1 = l2
    rotate_left
    · have HF := Lib.hid (show Agree u ur → false = true from fun h => absurd (HAk.out h) (fun e => hl (by injection e)))
      go_wp2_with fail
      · refine CN.out.mono ?_
        rintro en w7 ⟨rfl, hb7⟩
        have U7 := Lib.hid (HUb.out _ _ U6.out hb7)
        clear hb7 CN cv1 cv2
        by_cases hr : r1 = r2
        rotate_left
        · have q9 : ((r1 : Int) != (r2 : Int)) = true := by simp; omega
          go_wp2_with fail
          go_ret
          exact ⟨false, rfl, HF.out, U7.out⟩
        subst hr
        go_wp2_with fail
        go_roundw
        case rel => exact ⟨k + 1, by go_num, by omega, U7⟩
        case measure => simp [intOf]; omega
      · go_ret
        exact ⟨false, rfl, HF.out, U6.out⟩
    subst hl
    go_wp2_with fail
    refine CN.out.mono ?_
    rintro en w7 ⟨rfl, hb7⟩
    have U7 := Lib.hid (HUb.out _ _ U6.out hb7)
    clear hb7 CN cv1 cv2
    by_cases hr : r1 = r2
    rotate_left
    · have q9 : ((r1 : Int) != (r2 : Int)) = true := by simp; omega
      go_wp2_with fail
      go_ret
      exact ⟨false, rfl, fun h => absurd (HAk.out h) (fun e => hr (by injection e)), U7.out⟩
    subst hr
    go_wp2_with fail
    go_roundw
    case rel => exact ⟨k + 1, by go_num, by omega, U7⟩
    case measure => simp [intOf]; omega
end
end Go.Proofs.YtcpanaokfbojnaaGreatDoor

/- The document's own unit, new, beside a unit that is new. -/
namespace Go.Proofs.YtcpanaokfbojnaaGreatDoor
open Go Go.RowKit Go.Shelf Tide

section
variable {D : DvP} {a : Nat → Addr} {w : World}
theorem UR.new (hD : DvSpec (three a) D) {g p bm dev n k : Nat} {W : World} (h : UL D w (fun _ => False) (fun _ => True) g p bm dev n 0 ⟨⟨k, []⟩, [], 0, 0, 0⟩ W) : UR D w (fun _ => False) (fun _ => True) dev n 0 ⟨⟨k, []⟩, [], 0, 0, 0⟩ ⟨⟨k, []⟩, [], 0, 0, 0⟩ g (W.heap.size + 1) (refNew W k) := by
  have hb1 := (Below.refl W.heap.size W).alloc (Nat.le_refl _) (.cells #[.int .i64 (k : Int), .slice none 0 0] 74)
  have hb : Below W.heap.size W (refNew W k) := hb1.alloc (by rw [World.size_alloc]; omega) _
  have hz : (refNew W k).heap.size = W.heap.size + 2 := by unfold refNew; rw [World.size_alloc, World.size_alloc]
  have hz0 := h.since.size
  have h0 : (refNew W k).heap[W.heap.size + 1]? = some (.cells #[.pointer (some ⟨W.heap.size, 0, none⟩), .slice none 0 0, .slice none 0 0, .slice none 0 0, .int .i64 0, .int .i64 0, .int .i64 0] 71 (0, 0)) := by
    have := heap_alloc_new (W.alloc (.cells #[.int .i64 (k : Int), .slice none 0 0] 74)) (.cells #[.pointer (some ⟨W.heap.size, 0, none⟩), .slice none 0 0, .slice none 0 0, .slice none 0 0, .int .i64 0, .int .i64 0, .int .i64 0] 71)
    rw [World.size_alloc] at this
    exact this
  have hnil : ∀ (e : TypeId), (refNew W k).ownsRow 0 e 1 (.slice none 0 0) 0 [] := fun e => World.ownsRow_nil _ 0 e 1
  have hst : RefW (refNew W k) (fun b => b = W.heap.size) (fun _ => False) W.heap.size k [] (.slice none 0 0) := by
    refine { block := (Two.new W _ _ _).alloc _, segs := ⟨rfl, .inl ⟨rfl, rfl⟩⟩, rows := (fun g hg => by cases hg), fp := ⟨rfl, (fun k e => by cases e)⟩, lt := fun k hk => ?_, apart := List.Pairwise.nil }
    rw [hz]
    rcases hk with hk | hk
    · omega
    · exact hk.elim
  have hm : ∀ j, MineU (W.heap.size + 1) (.slice none 0 0) (.slice none 0 0) (.slice none 0 0) j → j = W.heap.size + 1 := fun j hj => by
    rcases hj with e | e | e | e
    · exact e
    · cases e
    · cases e
    · cases e
  have hr : RefU (refNew W k) (fun b => b = W.heap.size) (fun _ => False) (W.heap.size + 1) W.heap.size (.slice none 0 0) (.slice none 0 0) (.slice none 0 0) [] ⟨⟨k, []⟩, [], 0, 0, 0⟩ := {
    cells := h0
    store := ⟨[], _, rfl, hst⟩
    ats := hnil _
    pages := hnil _
    ins := hnil _
    bytes := ⟨rfl, fun i u b hu _ => by simp at hu⟩
    two := fun j e => by cases e
    mine := fun j hj => ⟨by have := hm j hj; omega, fun h => h, by have := hm j hj; omega⟩
    apart := fun _ _ h => h
    lt := fun j hj => by
      rcases hj with e | e
      · omega
      · exact e.elim }
  refine ⟨p, bm, fun j => j = W.heap.size ∨ j = W.heap.size + 1, fun _ => False, h.swap hD (K := fun _ => False) (Kept.of_below hb) (fun _ h => h.elim) (fun j hj => ?_) (fun j hj => ?_) ⟨trivial, _, _, _, _, _, _, hr, fun j => ⟨fun e => e.imp id (hm j), fun e => e.imp id (fun e => .inl e)⟩⟩, fun j hj => ⟨?_, fun h => h⟩⟩
  · rcases hj with e | (e | e) | e
    · exact e.elim
    · exact .inr (by omega)
    · exact .inr (by omega)
    · exact e.elim
  · rcases hj with e | (e | e) | e
    · exact e.elim
    · omega
    · omega
    · exact e.elim
  · rcases hj with (e | e) | e
    · omega
    · omega
    · exact e.elim
end
end Go.Proofs.YtcpanaokfbojnaaGreatDoor
