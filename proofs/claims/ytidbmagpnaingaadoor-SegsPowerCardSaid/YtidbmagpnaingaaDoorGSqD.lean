/- A device, perhaps its store, and several stores of the document's, each apart from the others but for records' bytes that are shared. -/
import Derived.Test.YtidbmagpnaingaaDoorGSpD
import Derived.Test.YtidbmagpnaingaaDoorGSgC
namespace Go.Proofs.YtidbmagpnaingaaDoor
open Go.RowKit Go.Shelf Tide

/-- No more than it needs; what it may change is apart from its records' bytes. -/
theorem RefI2.tight {W : World} {F S : Nat → Prop} {p : Nat} {s : StoD} (h : RefI2 W F S p s) : ∃ F' S', RefI2 W F' S' p s ∧ (∀ k, F' k → F k) ∧ (∀ k, S' k → S k) ∧ ∀ k, F' k → ¬ S' k := by
  obtain ⟨gs, vs, hgs, hR⟩ := h
  have hF : ∀ k, (k = p ∨ vs.ownBlock = some k ∨ ∃ g ∈ gs, g.vr.ownBlock = some k) → F k := fun k hk => by
    rcases hk with rfl | hk | ⟨g, hg, hk⟩
    · exact hR.fp.1
    · exact hR.fp.2 k hk
    · exact (hR.rows g hg).2.1 k hk
  have hS : ∀ k, (∃ g ∈ gs, ∃ (i : Nat) (u : Value) (b : List UInt8), g.rs[i]? = some u ∧ g.d.recs[i]? = some b ∧ u.ownBlock = some k) → S k := fun k hk => by
    obtain ⟨g, hg, i, u, b, h1, h2, h3⟩ := hk
    exact ((hR.rows g hg).2.2.2 i u b h1 h2).2 k h3
  refine ⟨fun k => k = p ∨ vs.ownBlock = some k ∨ ∃ g ∈ gs, g.vr.ownBlock = some k, fun k => ∃ g ∈ gs, ∃ (i : Nat) (u : Value) (b : List UInt8), g.rs[i]? = some u ∧ g.d.recs[i]? = some b ∧ u.ownBlock = some k, ⟨gs, vs, hgs, { block := hR.block, segs := hR.segs, rows := fun g hg => ⟨(hR.rows g hg).1, fun k e => .inr (.inr ⟨g, hg, e⟩), (hR.rows g hg).2.2.1, fun i u b hu hb => ⟨((hR.rows g hg).2.2.2 i u b hu hb).1, fun k e => ⟨g, hg, i, u, b, hu, hb, e⟩⟩⟩, fp := ⟨.inl rfl, fun k e => .inr (.inl e)⟩, lt := fun k hk => hR.lt k (hk.imp (hF k) (hS k)), apart := hR.apart }⟩, hF, hS, fun k hk hs => ?_⟩
  obtain ⟨g, hg, i, u, b, h1, h2, h3⟩ := hs
  have hu := ((hR.rows g hg).2.2.2 i u b h1 h2).1
  rcases hk with rfl | hk | ⟨g', hg', hk⟩
  · exact two_ne hR.block hu (by decide) h3
  · exact own_ne hR.segs hu (by decide) k hk h3
  · exact own_ne (hR.rows g' hg').1 hu (by decide) k hk h3
theorem RefI2.whole {W : World} {F S : Nat → Prop} {p : Nat} {s : StoD} (h : RefI2 W F S p s) : RefIs W (fun k => F k ∨ S k) p s := by
  have hlt : ∀ k, F k ∨ S k → k < W.heap.size := by
    obtain ⟨gs, vs, _, hR⟩ := h
    exact hR.lt
  exact ⟨F, S, fun _ h => h, hlt, h⟩
theorem RefI2.lt {W : World} {F S : Nat → Prop} {p : Nat} {s : StoD} (h : RefI2 W F S p s) : ∀ k, F k ∨ S k → k < W.heap.size := by
  obtain ⟨gs, vs, _, hR⟩ := h
  exact hR.lt
/-- A device's store, if it is asked for. -/
def Sto (W : World) (Fs : Nat → Prop) (dev : Nat) : Option (Nat × List SegU) → Prop
  | none => ∀ k, ¬ Fs k
  | some (p, us) => ∃ vs, StW W Fs p dev us vs
theorem Sto.keep {W W' : World} {Fs G : Nat → Prop} {dev : Nat} {st : Option (Nat × List SegU)} (h : Sto W Fs dev st) (hk : Kept G W W') (hG : ∀ k, Fs k → ¬ G k) : Sto W' Fs dev st := by
  cases st with
  | none => exact h
  | some x =>
    obtain ⟨p, us⟩ := x
    obtain ⟨vs, h⟩ := h
    exact ⟨vs, h.keep hk hG⟩
theorem Sto.lt {W : World} {Fs : Nat → Prop} {dev : Nat} {st : Option (Nat × List SegU)} (h : Sto W Fs dev st) : ∀ k, Fs k → k < W.heap.size := by
  cases st with
  | none => exact fun k hk => absurd hk (h k)
  | some x =>
    obtain ⟨p, us⟩ := x
    obtain ⟨vs, h⟩ := h
    exact h.lt
def QS (D : DvP) (w : World) (bx : Nat → Obj → Prop) (dev : Nat) (d : Dv) (st : Option (Nat × List SegU)) (c : Nat) (qs : Nat → Nat) (ms : Nat → StoD) (W : World) : Prop :=
  ∃ (Fd Fs : Nat → Prop) (Gs Ss : Nat → Nat → Prop),
    (∀ b o, bx b o → W.heap[b]? = some o ∧ ¬ (Fd b ∨ Fs b ∨ ∃ i, i < c ∧ (Gs i b ∨ Ss i b))) ∧ D W Fd dev d ∧ Sto W Fs dev st ∧ (∀ i, i < c → RefI2 W (Gs i) (Ss i) (qs i) (ms i)) ∧ (∀ k, Fd k → ¬ Fs k) ∧
    (∀ i, i < c → ∀ k, Gs i k ∨ Ss i k → ¬ (Fd k ∨ Fs k)) ∧ (∀ i j, i < c → j < c → ∀ k, Gs i k → ¬ Ss j k) ∧ (∀ i j, i < c → j < c → i ≠ j → ∀ k, Gs i k → ¬ Gs j k) ∧
    (∀ k, (Fd k ∨ Fs k ∨ ∃ i, i < c ∧ (Gs i k ∨ Ss i k)) → w.heap.size ≤ k) ∧ Below w.heap.size w W
section
variable {D : DvP} {a x : Nat → Addr} {w W W' : World} {bx bx' : Nat → Obj → Prop} {p dev q n c i : Nat} {d : Dv} {st : Option (Nat × List SegU)} {qs : Nat → Nat} {ms : Nat → StoD} {m v : StoD}
theorem QS.since (h : QS D w bx dev d st c qs ms W) : Below w.heap.size w W := by
  obtain ⟨Fd, Fs, Gs, Ss, h0, h1, h2, h3, h4, h5, h6, h7, h8, h9⟩ := h
  exact h9
theorem QS.boxed (h : QS D w bx dev d st c qs ms W) {b : Nat} {o : Obj} (hb : bx b o) : W.heap[b]? = some o := by
  obtain ⟨Fd, Fs, Gs, Ss, h0, h1⟩ := h
  exact (h0 b o hb).1
theorem QS.fewer (h : QS D w bx dev d st c qs ms W) (hb : ∀ b o, bx' b o → bx b o) : QS D w bx' dev d st c qs ms W := by
  obtain ⟨Fd, Fs, Gs, Ss, h0, h1⟩ := h
  exact ⟨Fd, Fs, Gs, Ss, fun b o h => h0 b o (hb b o h), h1⟩
/-- Device and store change. -/
theorem QS.devs (h : QS D w bx dev d st c qs ms W) : ∃ Fd Fs, D W Fd dev d ∧ Sto W Fs dev st ∧ (∀ k, Fd k → ¬ Fs k) ∧ (∀ k, Fd k ∨ Fs k → w.heap.size ≤ k) ∧
    ∀ W' Fd' Fs' d' st', D W' Fd' dev d' → Sto W' Fs' dev st' → (∀ k, Fd' k → ¬ Fs' k) → (∀ k, Fd' k ∨ Fs' k → Fd k ∨ Fs k ∨ W.heap.size ≤ k) → Kept (fun k => Fd k ∨ Fs k) W W' → QS D w bx dev d' st' c qs ms W' := by
  obtain ⟨Fd, Fs, Gs, Ss, h0, h1, h2, h3, h4, h5, h6, h7, h8, h9⟩ := h
  refine ⟨Fd, Fs, h1, h2, h4, fun k hk => h8 k (hk.elim .inl (fun h => .inr (.inl h))), fun W' Fd' Fs' d' st' g1 g2 g3 g4 hk => ?_⟩
  have hz := h9.size
  have hzz := hk.size
  refine ⟨Fd', Fs', Gs, Ss, fun b o hb => ?_, g1, g2, fun i hi => (h3 i hi).keep hk (h5 i hi), g3, fun i hi k hk' hf => ?_, h6, h7, fun k hk' => ?_, h9.trans (hk.below hz (fun k hf => h8 k (hf.elim .inl (fun h => .inr (.inl h)))))⟩
  · obtain ⟨k1, k2⟩ := h0 b o hb
    have hbl := (Array.getElem?_eq_some_iff.1 k1).1
    refine ⟨hk.heap k1 (fun hf => k2 (hf.elim .inl (fun h => .inr (.inl h)))), fun hf => ?_⟩
    rcases hf with hf | hf | hf
    · rcases g4 b (.inl hf) with h | h | h
      · exact k2 (.inl h)
      · exact k2 (.inr (.inl h))
      · omega
    · rcases g4 b (.inr hf) with h | h | h
      · exact k2 (.inl h)
      · exact k2 (.inr (.inl h))
      · omega
    · exact k2 (.inr (.inr hf))
  · rcases g4 k hf with h | h | h
    · exact h5 i hi k hk' (.inl h)
    · exact h5 i hi k hk' (.inr h)
    · have := (h3 i hi).lt k hk'; omega
  · have hnew : ∀ k, Fd' k ∨ Fs' k → w.heap.size ≤ k := fun k hf => by
      rcases g4 k hf with h | h | h
      · exact h8 k (.inl h)
      · exact h8 k (.inr (.inl h))
      · omega
    rcases hk' with hf | hf | hf
    · exact hnew k (.inl hf)
    · exact hnew k (.inr hf)
    · exact h8 k (.inr (.inr hf))
theorem QS.below (hD : DvSpec x D) (h : QS D w bx dev d st c qs ms W) (hb : Below W.heap.size W W') : QS D w bx dev d st c qs ms W' := by
  obtain ⟨Fd, Fs, g1, g2, g3, _, g5⟩ := h.devs
  exact g5 W' Fd Fs d st (hD.keep _ _ _ (fun _ => False) _ _ g1 (Kept.of_below hb) (fun _ _ h => h)) (g2.keep (G := fun _ => False) (Kept.of_below hb) (fun _ _ h => h)) g3 (fun k hk => hk.elim .inl (fun h => .inr (.inl h))) ((Kept.of_below (F := fun _ => False) hb).mono (fun _ _ h => h.elim))
/-- One of the document's stores changes. -/
theorem QS.ref (hD : DvSpec x D) (h : QS D w bx dev d st c qs ms W) (hi : i < c) : ∃ G S, RefI2 W G S (qs i) (ms i) ∧ (∀ k, G k → w.heap.size ≤ k) ∧
    ∀ W' G' S' v', RefI2 W' G' S' (qs i) v' → (∀ k, G' k → G k ∨ W.heap.size ≤ k) → (∀ k, S' k → S k ∨ W.heap.size ≤ k) → Kept G W W' → ∀ ms', (∀ j, j ≠ i → ms' j = ms j) → ms' i = v' → QS D w bx dev d st c qs ms' W' := by
  obtain ⟨Fd, Fs, Gs, Ss, h0, h1, h2, h3, h4, h5, h6, h7, h8, h9⟩ := h
  have hlt1 := hD.lt _ _ _ _ h1
  have hlt2 := h2.lt
  refine ⟨Gs i, Ss i, h3 i hi, fun k hk => h8 k (.inr (.inr ⟨i, hi, .inl hk⟩)), fun W' G' S' v' g1 g2 g3 hk ms' hm1 hm2 => ?_⟩
  obtain ⟨G2, S2, t1, t2, t3, t4⟩ := g1.tight
  have hz := h9.size
  have hG2 : ∀ k, G2 k → Gs i k ∨ W.heap.size ≤ k := fun k hk => g2 k (t2 k hk)
  have hS2 : ∀ k, S2 k → Ss i k ∨ W.heap.size ≤ k := fun k hk => g3 k (t3 k hk)
  have hl3 : ∀ j, j < c → ∀ k, Gs j k ∨ Ss j k → k < W.heap.size := fun j hj => (h3 j hj).lt
  refine ⟨Fd, Fs, fun j => if j = i then G2 else Gs j, fun j => if j = i then S2 else Ss j, fun b o hb => ?_, hD.keep _ _ _ _ _ _ h1 hk (fun k hf hg => h5 i hi k (.inl hg) (.inl hf)), h2.keep hk (fun k hf hg => h5 i hi k (.inl hg) (.inr hf)), fun j hj => ?_, h4, fun j hj k hjk hf => ?_, fun j l hj hl k hjk hlk => ?_, fun j l hj hl hjl k hjk hlk => ?_, fun k hjk => ?_, h9.trans (hk.below hz (fun k hk => h8 k (.inr (.inr ⟨i, hi, .inl hk⟩))))⟩
  · obtain ⟨k1, k2⟩ := h0 b o hb
    have hbl := (Array.getElem?_eq_some_iff.1 k1).1
    refine ⟨hk.heap k1 (fun hf => k2 (.inr (.inr ⟨i, hi, .inl hf⟩))), fun hf => ?_⟩
    rcases hf with hf | hf | ⟨j, hj, hf⟩
    · exact k2 (.inl hf)
    · exact k2 (.inr (.inl hf))
    · by_cases e : j = i
      · simp only [if_pos e] at hf
        rcases hf with hf | hf
        · rcases hG2 b hf with h | h
          · exact k2 (.inr (.inr ⟨i, hi, .inl h⟩))
          · omega
        · rcases hS2 b hf with h | h
          · exact k2 (.inr (.inr ⟨i, hi, .inr h⟩))
          · omega
      · simp only [if_neg e] at hf
        exact k2 (.inr (.inr ⟨j, hj, hf⟩))
  · by_cases e : j = i
    · subst e
      simp only [if_true]
      rw [hm2]
      exact t1
    · simp only [if_neg e]
      rw [hm1 j e]
      exact (h3 j hj).keep hk (fun k hf hg => hf.elim (fun h => h7 i j hi hj (fun e2 => e e2.symm) k hg h) (fun h => h6 i j hi hj k hg h))
  · have hold : Fd k ∨ Fs k → k < W.heap.size := fun hf => hf.elim (hlt1 k) (hlt2 k)
    by_cases e : j = i
    · simp only [if_pos e] at hjk
      rcases hjk with h | h
      · rcases hG2 k h with h | h
        · exact h5 i hi k (.inl h) hf
        · have := hold hf; omega
      · rcases hS2 k h with h | h
        · exact h5 i hi k (.inr h) hf
        · have := hold hf; omega
    · simp only [if_neg e] at hjk
      exact h5 j hj k hjk hf
  · by_cases e : j = i
    · simp only [if_pos e] at hjk
      by_cases e2 : l = i
      · simp only [if_pos e2] at hlk
        exact t4 k hjk hlk
      · simp only [if_neg e2] at hlk
        rcases hG2 k hjk with h | h
        · exact h6 i l hi hl k h hlk
        · have := hl3 l hl k (.inr hlk); omega
    · simp only [if_neg e] at hjk
      by_cases e2 : l = i
      · simp only [if_pos e2] at hlk
        rcases hS2 k hlk with h | h
        · exact h6 j i hj hi k hjk h
        · have := hl3 j hj k (.inl hjk); omega
      · simp only [if_neg e2] at hlk
        exact h6 j l hj hl k hjk hlk
  · by_cases e : j = i
    · simp only [if_pos e] at hjk
      by_cases e2 : l = i
      · omega
      · simp only [if_neg e2] at hlk
        rcases hG2 k hjk with h | h
        · exact h7 i l hi hl (fun e3 => e2 e3.symm) k h hlk
        · have := hl3 l hl k (.inl hlk); omega
    · simp only [if_neg e] at hjk
      by_cases e2 : l = i
      · simp only [if_pos e2] at hlk
        rcases hG2 k hlk with h | h
        · exact h7 j i hj hi e k hjk h
        · have := hl3 j hj k (.inl hjk); omega
      · simp only [if_neg e2] at hlk
        exact h7 j l hj hl hjl k hjk hlk
  · rcases hjk with hf | hf | ⟨j, hj, hf⟩
    · exact h8 k (.inl hf)
    · exact h8 k (.inr (.inl hf))
    · by_cases e : j = i
      · simp only [if_pos e] at hf
        rcases hf with h | h
        · rcases hG2 k h with h | h
          · exact h8 k (.inr (.inr ⟨i, hi, .inl h⟩))
          · omega
        · rcases hS2 k h with h | h
          · exact h8 k (.inr (.inr ⟨i, hi, .inr h⟩))
          · omega
      · simp only [if_neg e] at hf
        exact h8 k (.inr (.inr ⟨j, hj, hf⟩))
/-- One more of the document's stores, a copy of one. -/
theorem QS.copied (hD : DvSpec x D) (h : QS D w bx dev d st c qs ms W) (hi : i < c) : ∃ G S, RefI2 W G S (qs i) (ms i) ∧
    ∀ W' G' q, RefI2 W' G' S q (ms i) → (∀ k, G' k → W.heap.size ≤ k) → Below W.heap.size W W' → ∀ qs' ms', (∀ j, j < c → qs' j = qs j ∧ ms' j = ms j) → qs' c = q → ms' c = ms i → QS D w bx dev d st (c + 1) qs' ms' W' := by
  obtain ⟨Fd, Fs, Gs, Ss, h0, h1, h2, h3, h4, h5, h6, h7, h8, h9⟩ := h
  have hlt1 := hD.lt _ _ _ _ h1
  have hlt2 := h2.lt
  have hl3 : ∀ j, j < c → ∀ k, Gs j k ∨ Ss j k → k < W.heap.size := fun j hj => (h3 j hj).lt
  refine ⟨Gs i, Ss i, h3 i hi, fun W' G' q g1 g2 hb qs' ms' hq1 hq2 hm2 => ?_⟩
  have hz := h9.size
  have hzb := hb.size
  have hk : Kept (fun _ => False) W W' := Kept.of_below hb
  have hlow : ∀ k, G' k → ¬ k < W.heap.size := fun k hk h => by have := g2 k hk; omega
  refine ⟨Fd, Fs, fun j => if j = c then G' else Gs j, fun j => if j = c then Ss i else Ss j, fun b o hb' => ?_, hD.keep _ _ _ _ _ _ h1 hk (fun _ _ h => h), h2.keep hk (fun _ _ h => h), fun j hj => ?_, h4, fun j hj k hjk hf => ?_, fun j l hj hl k hjk hlk => ?_, fun j l hj hl hjl k hjk hlk => ?_, fun k hjk => ?_, h9.trans (hb.mono hz)⟩
  · obtain ⟨k1, k2⟩ := h0 b o hb'
    have hbl := (Array.getElem?_eq_some_iff.1 k1).1
    refine ⟨(hb.block b hbl).trans k1, fun hf => ?_⟩
    rcases hf with hf | hf | ⟨j, hj, hf⟩
    · exact k2 (.inl hf)
    · exact k2 (.inr (.inl hf))
    · by_cases e : j = c
      · simp only [if_pos e] at hf
        rcases hf with hf | hf
        · exact hlow b hf hbl
        · exact k2 (.inr (.inr ⟨i, hi, .inr hf⟩))
      · simp only [if_neg e] at hf
        exact k2 (.inr (.inr ⟨j, by omega, hf⟩))
  · by_cases e : j = c
    · subst e
      simp only [if_true]
      rw [hq2, hm2]
      exact g1
    · simp only [if_neg e]
      rw [(hq1 j (by omega)).1, (hq1 j (by omega)).2]
      exact (h3 j (by omega)).below hb
  · have hold : k < W.heap.size := hf.elim (hlt1 k) (hlt2 k)
    by_cases e : j = c
    · simp only [if_pos e] at hjk
      rcases hjk with h | h
      · exact hlow k h hold
      · exact h5 i hi k (.inr h) hf
    · simp only [if_neg e] at hjk
      exact h5 j (by omega) k hjk hf
  · by_cases e : j = c
    · simp only [if_pos e] at hjk
      by_cases e2 : l = c
      · simp only [if_pos e2] at hlk
        exact hlow k hjk (hl3 i hi k (.inr hlk))
      · simp only [if_neg e2] at hlk
        exact hlow k hjk (hl3 l (by omega) k (.inr hlk))
    · simp only [if_neg e] at hjk
      by_cases e2 : l = c
      · simp only [if_pos e2] at hlk
        exact h6 j i (by omega) hi k hjk hlk
      · simp only [if_neg e2] at hlk
        exact h6 j l (by omega) (by omega) k hjk hlk
  · by_cases e : j = c
    · simp only [if_pos e] at hjk
      by_cases e2 : l = c
      · omega
      · simp only [if_neg e2] at hlk
        exact hlow k hjk (hl3 l (by omega) k (.inl hlk))
    · simp only [if_neg e] at hjk
      by_cases e2 : l = c
      · simp only [if_pos e2] at hlk
        exact hlow k hlk (hl3 j (by omega) k (.inl hjk))
      · simp only [if_neg e2] at hlk
        exact h7 j l (by omega) (by omega) hjl k hjk hlk
  · rcases hjk with hf | hf | ⟨j, hj, hf⟩
    · exact h8 k (.inl hf)
    · exact h8 k (.inr (.inl hf))
    · by_cases e : j = c
      · simp only [if_pos e] at hf
        rcases hf with h | h
        · exact Nat.le_trans hz (g2 k h)
        · exact h8 k (.inr (.inr ⟨i, hi, .inr h⟩))
      · simp only [if_neg e] at hf
        exact h8 k (.inr (.inr ⟨j, by omega, hf⟩))
/-- Out of a device, its store and one of the document's. -/
theorem QS.of_ps (h : PS D w bx p dev q n m v W) : ∃ d, QS D w bx dev d (some (p, usOf m)) 1 (fun _ => q) (fun _ => v) W ∧ d.pend = [] ∧ d.stop = none ∧ LiesM n d.img m := by
  obtain ⟨Fd, Fs, G, vs, d, h0, h1, h2, h3, h4, h5, h6, h7, h8, h9, h10⟩ := h
  obtain ⟨F, S, hFS, hlt, hr⟩ := h3
  obtain ⟨F2, S2, t1, t2, t3, t4⟩ := hr.tight
  have hG : ∀ k, F2 k ∨ S2 k → G k := fun k hk => hFS k (hk.imp (t2 k) (t3 k))
  refine ⟨d, ⟨Fd, Fs, fun _ => F2, fun _ => S2, fun b o hb => ⟨(h0 b o hb).1, fun hf => (h0 b o hb).2 ?_⟩, h1, ⟨vs, h2⟩, fun _ _ => t1, h4, fun _ _ k hk hf => h5 k hf (hG k hk), fun _ _ _ _ k => t4 k, fun i j hi hj hij => by omega, fun k hk => (h6 k ?_).1, h7⟩, h8, h9, h10⟩
  · rcases hf with hf | hf | ⟨_, _, hf⟩
    · exact .inl hf
    · exact .inr (.inl hf)
    · exact .inr (.inr (hG b hf))
  · rcases hk with hf | hf | ⟨_, _, hf⟩
    · exact .inl hf
    · exact .inr (.inl hf)
    · exact .inr (.inr (hG k hf))
/-- And back, with whichever of the document's stores. -/
theorem QS.to_ps (hD : DvSpec x D) (h : QS D w bx dev d (some (p, usOf m)) c qs ms W) (hi : i < c) (hp : d.pend = []) (hs : d.stop = none) (hL : LiesM n d.img m) (hm : ms i = v) (hq : qs i = q) : PS D w bx p dev q n m v W := by
  obtain ⟨Fd, Fs, Gs, Ss, h0, h1, ⟨vs, h2⟩, h3, h4, h5, h6, h7, h8, h9⟩ := h
  subst hm hq
  have hlt1 := hD.lt _ _ _ _ h1
  have hlt2 := h2.lt
  have hlt3 := (h3 i hi).lt
  refine ⟨Fd, Fs, fun k => Gs i k ∨ Ss i k, vs, d, fun b o hb => ⟨(h0 b o hb).1, fun hf => (h0 b o hb).2 ?_⟩, h1, h2, (h3 i hi).whole, h4, fun k hf hk => h5 i hi k hk hf, fun k hk => ?_, h9, hp, hs, hL⟩
  · rcases hf with hf | hf | hf
    · exact .inl hf
    · exact .inr (.inl hf)
    · exact .inr (.inr ⟨i, hi, hf⟩)
  · rcases hk with hf | hf | hf
    · exact ⟨h8 k (.inl hf), hlt1 k hf⟩
    · exact ⟨h8 k (.inr (.inl hf)), hlt2 k hf⟩
    · exact ⟨h8 k (.inr (.inr ⟨i, hi, hf⟩)), hlt3 k hf⟩
end
end Go.Proofs.YtidbmagpnaingaaDoor

/- Stores whose calls a loss of power breaks off: what may be behind it; which stores tell the same. It speaks of no program. -/
namespace Go.Proofs.YtidbmagpnaingaaDoor
open Go.RowKit Go.Shelf Tide

/-- Behind a call that may be broken off: n sectors; from m to mb, or a segment taken (T); the error's number; the device. -/
def Outc (n : Nat) (m mb : StoD) (T : Prop) (r : Nat) (d : Dv) : Prop :=
  d.img.length = 64 * n ∧ ((r ≠ 0 ∧ r ≠ 12 ∧ mb = m ∧ Lost n d (fun im => LiesM n im m)) ∨ (r = 0 ∧ Lost n d (fun im => LiesM n im mb)) ∨
    (r = 12 ∧ Lost n d (fun im => LiesM n im m ∨ LiesM n im mb ∨ (T ∧ ∃ t, takeD m = some t ∧ LiesM n im t))))
theorem lost_none {n : Nat} {d : Dv} (hp : d.pend = []) {Q : List UInt8 → Prop} (h : Q d.img) : Lost n d Q := fun xs hx _ => by
  rw [hp] at hx
  have : xs = [] := List.map_eq_nil_iff.1 hx
  subst this
  exact h
theorem same_nos {m v : StoD} (h : sameB m v = true) : nosD m.segs = nosD v.segs := by
  rw [sameB_of] at h
  simp only [Bool.and_eq_true, decide_eq_true_eq] at h
  exact h.2.1.1.1
theorem same_len {m v : StoD} (h : sameB m v = true) : m.segs.length = v.segs.length := by
  have := congrArg List.length (same_nos h)
  simpa [nosD] using this
theorem same_recs {m v : StoD} (h : sameB m v = true) : ∀ g ∈ v.segs, recsOf m.segs (g.number : Int) = g.recs := fun g hg => by
  rw [sameB_of] at h
  simp only [Bool.and_eq_true, List.all_eq_true, decide_eq_true_eq] at h
  exact h.1 g hg
theorem push_len (gs : List SegD) (b : List UInt8) : (pushD gs b).length = gs.length := by
  rcases List.eq_nil_or_concat gs with rfl | ⟨l, x, hc⟩
  · rfl
  · rw [List.concat_eq_append] at hc
    subst hc
    rw [push_snoc]
    simp
theorem same_push {m : StoD} (h : m.Wf) (hne : m.segs ≠ []) (P : Nat) (b : List UInt8) : sameB m ⟨P, pushD m.segs b⟩ = false := by
  cases hs : sameB m ⟨P, pushD m.segs b⟩ with
  | false => rfl
  | true =>
    exfalso
    rcases List.eq_nil_or_concat m.segs with h0 | ⟨l, x, hc⟩
    · exact hne h0
    · rw [List.concat_eq_append] at hc
      have h1 := same_recs hs
      have h2 := recs_own h (g := x) (by rw [hc]; simp)
      rw [hc] at h1 h2
      have h3 := h1 (x.push b) (by show _ ∈ pushD (l ++ [x]) b; rw [push_snoc]; simp)
      have h4 : ((x.push b).number : Int) = (x.number : Int) := rfl
      rw [h4, h2] at h3
      have h5 := congrArg List.length h3
      have h6 : (x.push b).recs = x.recs ++ [b] := rfl
      rw [h6, List.length_append] at h5
      simp at h5
theorem fits_ne {gs : List SegD} {k : Nat} (h : fitsD gs k = true) : gs ≠ [] := by
  intro e
  subst e
  cases h
theorem take_len {m t : StoD} (h : takeD m = some t) : t.segs.length = m.segs.length + 1 := by
  unfold takeD at h
  split at h
  · cases h
  · injection h with h
    subst h
    simp
theorem append_same {m : StoD} (h : m.Wf) {b : List UInt8} (hs : sameB m (appendD m b).1 = true) : (appendD m b).1 = m := by
  unfold appendD at hs ⊢
  split
  · rfl
  · rename_i hb
    rw [if_neg hb] at hs
    split
    · rename_i hf
      rw [if_pos hf] at hs
      rw [same_push h (fits_ne hf)] at hs
      cases hs
    · rename_i hf
      rw [if_neg hf] at hs
      cases ht : takeD m with
      | none => rfl
      | some t =>
        rw [ht] at hs
        have h1 := same_len hs
        have h2 := take_len ht
        have h3 := push_len t.segs b
        simp only at h1
        omega
theorem take_append_same {m t : StoD} (h : m.Wf) {b : List UInt8} (ht : takeD m = some t) (hf : fitsD m.segs b.length = false) : sameB t (appendD m b).1 = false := by
  cases hs : sameB t (appendD m b).1 with
  | false => rfl
  | true =>
    exfalso
    have h2 := take_len ht
    unfold appendD at hs
    split at hs
    · have h5 : t.segs.length = m.segs.length := same_len hs
      omega
    · rw [hf] at hs
      simp only [Bool.false_eq_true, if_false, ht] at hs
      rw [same_push (take_wf h ht) (by intro e; rw [e] at h2; simp at h2)] at hs
      cases hs
theorem takeD_same {m t : StoD} (ht : takeD m = some t) : sameB t m = false := by
  cases hs : sameB t m with
  | false => rfl
  | true => have := same_len hs; have := take_len ht; omega
theorem drop_same {m : StoD} {k : Int} (hs : sameB m (dropD m k).1 = true) : (dropD m k).1 = m := by
  unfold dropD at hs ⊢
  cases hd : dropAt m.segs k with
  | none => rfl
  | some i =>
    rw [hd] at hs
    simp only at hs ⊢
    split
    · rfl
    · rename_i hi
      rw [if_neg hi] at hs
      have h1 := same_len hs
      simp only at h1
      have h2 : i < m.segs.length := by
        unfold dropAt at hd
        rw [List.findIdx?_eq_some_iff_getElem] at hd
        exact hd.1
      rw [List.length_eraseIdx_of_lt h2] at h1
      omega
end Go.Proofs.YtidbmagpnaingaaDoor

/- What the program's and the document's functions do to a device, its store and several of the document's. -/
namespace Go.Proofs.YtidbmagpnaingaaDoor
open Go.RowKit Go.Shelf Tide

/-- The document's Take, where there is a place. -/
theorem take2 {W : World} {F S : Nat → Prop} {p : Nat} {s t : StoD} (h : RefI2 W F S p s) (hs : Small s) (ht : takeD s = some t) :
    Calls Tryd.prog 38 #[.pointer (some ⟨p, 0, none⟩)] W fun e w' => e = .returned (.bool true) ∧ ∃ F', RefI2 w' F' S p t ∧ (∀ k, F' k → F k ∨ W.heap.size ≤ k) ∧ Kept F W w' := by
  obtain ⟨gs, vs, hgs, hR⟩ := h
  have hlen : gs.length = s.segs.length := by rw [hgs, List.length_map]
  have hno : ∀ g ∈ gs, g.d.number ≤ 100000 := fun g hg => (hs.each g.d (by rw [hgs]; exact List.mem_map.2 ⟨g, hg, rfl⟩)).2.1
  refine (take_any hR hs.places (by have := hs.segs; omega) hno).mono ?_
  unfold takeD at ht
  rw [hgs] at ht
  rintro e w' (⟨h1, _, _⟩ | ⟨h1, rfl, F', vs', h2, h3, h4⟩)
  · rw [if_pos h1] at ht; cases ht
  · rw [if_neg (by omega)] at ht
    injection ht with ht
    subst ht
    refine ⟨rfl, F', ⟨_, vs', ?_, h2⟩, h3, h4⟩
    rw [List.map_append]
    rfl
theorem fits2 {W : World} {F S : Nat → Prop} {p : Nat} {s : StoD} (h : RefI2 W F S p s) (hs : Small s) (A : Option Addr) (n c : Nat) (hn : n ≤ 100000) :
    Calls Tryd.prog 37 #[.pointer (some ⟨p, 0, none⟩), .slice A n c] W fun e w' => e = .returned (.bool (fitsD s.segs n)) ∧ Below W.heap.size W w' := by
  obtain ⟨gs, vs, hgs, hR⟩ := h
  have hlen : gs.length = s.segs.length := by rw [hgs, List.length_map]
  rw [hgs]
  refine (fits_any hR (fun g hg => (hs.each g.d (by rw [hgs]; exact List.mem_map.2 ⟨g, hg, rfl⟩)).1) (by have := hs.segs; omega) A n c hn).mono ?_
  rintro e w' ⟨rfl, k, rfl⟩
  exact ⟨rfl, below_drawn W k⟩
section
variable {D : DvP} {a x : Nat → Addr} {w W W' : World} {bx : Nat → Obj → Prop} {p dev n c i N : Nat} {d : Dv} {st : Option (Nat × List SegU)} {qs : Nat → Nat} {ms : Nat → StoD} {m v t : StoD}
theorem QS.append (hD : DvSpec (three a) D) (hE : Errs w a) (hn : n ≤ 1000) (hN : NumLe N m) (hNl : N ≤ 100000) (h : QS D w bx dev d (some (p, usOf m)) c qs ms W) (hp : d.pend = []) (hL : LiesM n d.img m) (hb : Below W.heap.size W W') (vb : Value) (b : List UInt8) (hv : Bytes W' W'.heap.size vb b) (hvb : ∀ k, vb.ownBlock = some k → W.heap.size ≤ k) :
    Calls Tryd.prog 14 #[.pointer (some ⟨p, 0, none⟩), vb] W' fun e w' => ∃ k y r d', e = .returned (.tuple #[.int .i64 k, y]) ∧ IsErr a y r ∧ Outc n m (appendD m b).1 (fitsD m.segs b.length = false) r d' ∧ QS D w bx dev d' none c qs ms w' := by
  have hs := h.since
  have hz := hs.size
  have hzb := hb.size
  have hng := hE.ng
  have hs' := hs.trans (hb.mono hz)
  obtain ⟨Fd, Fs, g1, ⟨vs, g2⟩, g3, g4, g5⟩ := h.devs
  have hlt1 := hD.lt _ _ _ _ g1
  have hlt2 := g2.lt
  refine (append_any hD (hE.below hs') (hD.keep _ _ _ (fun _ => False) _ _ g1 (Kept.of_below hb) (fun _ _ h => h)) hp (g2.below hb) g3 (fun k hk => Nat.le_trans hng (g4 k hk)) (Nat.le_trans hng hs'.size) (usOf_ok hL hn hN hNl) vb b W'.heap.size hv (Nat.le_refl _) (fun k e hk => by
    have := hvb k e
    rcases hk with hk | hk
    · have := hlt1 k hk; omega
    · have := hlt2 k hk; omega)).mono ?_
  rintro e w' ⟨rfl, F', G', vs', r1, r2, r3, r4, r5, r6⟩
  have hq := g5 w' F' (fun _ => False) _ none r1 (fun _ h => h) (fun _ _ h => h) (fun k hk => by
    rcases hk with hk | hk
    · rcases r4 k hk with h | h
      · exact .inl h
      · exact .inr (.inr (by omega))
    · exact hk.elim) ((Kept.of_below (F := fun k => Fd k ∨ Fs k) hb).trans r6 (fun k hk => .inl hk))
  rcases append_lies hL (by have := hN.last; omega) b with ⟨er, e1, e2, e3⟩ | ⟨no, d', e1, e2, e3, e4, e5⟩ | ⟨us', d', e1, e2, e3, e4⟩
  · rw [e1] at hq ⊢
    refine ⟨_, errAt (a er), er + 1, d, rfl, isErr_at a er (by omega), ⟨hL.len, .inl ⟨by omega, by omega, by rw [e2], lost_none hp hL⟩⟩, hq⟩
  · rw [e1] at hq ⊢
    exact ⟨_, .nilIface, 0, d', rfl, isErr_nil a, ⟨e3.len, .inr (.inl ⟨rfl, lost_none e4 e3⟩)⟩, hq⟩
  · rw [e1] at hq ⊢
    exact ⟨_, errAt (a 11), 12, d', rfl, isErr_at a 11 (by omega), ⟨e3, .inr (.inr ⟨rfl, fun xs hx hf => (e4 xs hx hf).imp_right (fun h => h.imp_right id)⟩)⟩, hq⟩
theorem QS.drop (hD : DvSpec (three a) D) (hE : Errs w a) (hn : n ≤ 1000) (h : QS D w bx dev d (some (p, usOf m)) c qs ms W) (hp : d.pend = []) (hL : LiesM n d.img m) (k : Int) :
    Calls Tryd.prog 17 #[.pointer (some ⟨p, 0, none⟩), .int .i64 k] W fun e w' => ∃ y r d', e = .returned y ∧ IsErr a y r ∧ Outc n m (dropD m k).1 False r d' ∧ QS D w bx dev d' none c qs ms w' := by
  have hQ := h
  have hs := h.since
  have hz := hs.size
  have hng := hE.ng
  obtain ⟨img, pend, sp⟩ := d
  simp only at hp hL
  subst hp
  obtain ⟨Fd, Fs, g1, ⟨vs, g2⟩, g3, g4, g5⟩ := h.devs
  have hil : img.length / 64 = n := by have := hL.len; omega
  have hul : (usOf m).length ≤ 1000 := by rw [usOf_len]; have := wf_len hL.wf; have := hL.places; omega
  have hus : ∀ u ∈ usOf m, u.first < img.length / 64 := fun u hu => by
    obtain ⟨g, hg, rfl⟩ := List.mem_map.1 hu
    have := hL.on hg
    simp only
    omega
  have hsame : ∀ w', Below W.heap.size W w' → QS D w bx dev ⟨img, [], sp⟩ none c qs ms w' := fun w' hb =>
    g5 w' Fd (fun _ => False) _ none (hD.keep _ _ _ (fun _ => False) _ _ g1 (Kept.of_below hb) (fun _ _ h => h)) (fun _ h => h) (fun _ _ h => h) (fun k hk => hk.elim .inl False.elim) (Kept.of_below hb)
  refine (drop_any hD (hE.below hs) g1 g2 g3 (fun k hk => Nat.le_trans hng (g4 k (.inl hk))) (Nat.le_trans hng hz) hul hus k).mono ?_
  have hfind := find_is hL.wf k
  rintro e w' (⟨e1, rfl, hb⟩ | ⟨i, e1, e2, rfl, hb⟩ | ⟨i, hi, e1, hr⟩)
  · rcases hfind with ⟨_, f1, _⟩ | ⟨i, hi, _, f1, f2, _⟩
    · have e : dropD m k = (m, 16) := by unfold dropD; rw [f1]
      rw [e]
      exact ⟨_, 16, _, rfl, isErr_at a 15 (by omega), ⟨hL.len, .inl ⟨by omega, by omega, rfl, lost_none rfl hL⟩⟩, hsame w' hb⟩
    · rw [f2] at e1; omega
  · rcases hfind with ⟨_, f1, f2, _⟩ | ⟨j, hj, _, f1, f2, _⟩
    · rw [f2] at e1; omega
    · have hij : j = i := by rw [f2] at e1; omega
      subst hij
      rw [usOf_len] at e2
      have e : dropD m k = (m, 17) := by unfold dropD; rw [f1]; simp only; rw [if_pos e2]
      rw [e]
      exact ⟨_, 17, _, rfl, isErr_at a 16 (by omega), ⟨hL.len, .inl ⟨by omega, by omega, rfl, lost_none rfl hL⟩⟩, hsame w' hb⟩
  · rcases hfind with ⟨_, f1, f2, _⟩ | ⟨j, hj, _, f1, f2, _⟩
    · rw [f2] at e1; omega
    · have hij : j = i := by rw [f2] at e1; omega
      subst hij
      have hi' := hi
      rw [usOf_len] at hi'
      have e : dropD m k = ({ m with segs := m.segs.eraseIdx j }, 0) := by unfold dropD; rw [f1]; simp only; rw [if_neg (by omega)]
      have hwf := drop_wf hL.wf k
      rw [e] at hwf ⊢
      have hat : (usOf m)[j]'(by omega) = ⟨(m.segs[j]).number, 64 * (m.segs[j]).place, endG m.segs[j]⟩ := by simp only [usOf, List.getElem_map]
      rw [hat] at hr
      simp only at hr
      have hdl := drop_lies (d := ⟨img, [], sp⟩) hL hj hwf
      have hon := hL.on (List.getElem_mem hj)
      have hln := flush_chunks_len (n := n) (i := 64 * (m.segs[j]).place) (m := 1) (whole := (sect img (64 * (m.segs[j]).place)).set 63 2) (img := img) (by rw [List.length_set, sect_len _ _ (by have := hL.len; omega)]) (by omega) hL.len
      rcases hr with ⟨hpw, rfl, F', vs', r1, r2, r3, r4⟩ | ⟨s, e3, hs1, rfl, F', r1, r2, r3⟩
      · have hput := putD_ok (d := ⟨img, [], sp⟩) (i := 64 * (m.segs[j]).place) (whole := (sect img (64 * (m.segs[j]).place)).set 63 2) (m := 1) hpw
        rw [hput] at hdl
        rcases hdl with ⟨_, hl⟩ | ⟨hl, _⟩
        · refine ⟨_, 0, _, rfl, isErr_nil a, ⟨hln, .inr (.inl ⟨rfl, lost_none rfl hl⟩)⟩, g5 w' F' (fun _ => False) _ none r1 (fun _ h => h) (fun _ _ h => h) (fun k hk => ?_) r4⟩
          rcases hk with hk | hk
          · exact (r3 k hk).imp_right .inr
          · exact hk.elim
        · cases hl
      · have hput : putD ⟨img, [], sp⟩ (64 * (m.segs[j]).place) ((sect img (64 * (m.segs[j]).place)).set 63 2) 1 = (false, ⟨img, (chunksD (64 * (m.segs[j]).place) ((sect img (64 * (m.segs[j]).place)).set 63 2) 1).take s, some 0⟩) := by
          unfold putD
          simp only [e3]
          rw [if_pos hs1]
        rw [hput] at hdl
        rcases hdl with ⟨hl, _⟩ | ⟨_, hl⟩
        · cases hl
        · refine ⟨_, 12, _, rfl, isErr_at a 11 (by omega), ⟨hL.len, .inr (.inr ⟨rfl, fun xs hx hf => (hl xs hx hf).imp_right .inl⟩)⟩, g5 w' F' (fun _ => False) _ none r1 (fun _ h => h) (fun _ _ h => h) (fun k hk => ?_) (r3.mono (fun k _ h => .inl h))⟩
          rcases hk with hk | hk
          · exact (r2 k hk).imp_right .inr
          · exact hk.elim
theorem QS.stop (hD : DvSpec x D) (h : QS D w bx dev d st c qs ms W) (hs : d.stop = none) (k : Int) (hk : k ≤ 9223372036854775807) :
    Calls Tryd.prog 35 #[.pointer (some ⟨dev, 0, none⟩), .int .i64 k] W fun e w' => e = .returned (.tuple #[]) ∧ QS D w bx dev ⟨d.img, d.pend, some k.toNat⟩ st c qs ms w' := by
  obtain ⟨Fd, Fs, g1, g2, g3, g4, g5⟩ := h.devs
  refine (hD.stop _ _ _ _ k g1 hs hk).mono ?_
  rintro e w' ⟨rfl, r1, r2⟩
  exact ⟨rfl, g5 w' Fd Fs _ st r1 (g2.keep r2 (fun k h1 h2 => g3 k h2 h1)) g3 (fun k hk => hk.imp_right .inl) (r2.mono (fun k _ h => .inl h))⟩
theorem QS.crash (hD : DvSpec x D) (h : QS D w bx dev d none c qs ms W) (hl : d.img.length = 64 * n) {Q : List UInt8 → Prop} (hQ : Lost n d Q) (kv torn cut : Int) :
    Calls Tryd.prog 36 #[.pointer (some ⟨dev, 0, none⟩), .int .u64 kv, .int .i64 torn, .int .i64 cut] W fun e w' => e = .returned (.tuple #[]) ∧ ∃ im, Q im ∧ QS D w bx dev ⟨im, [], none⟩ none c qs ms w' := by
  obtain ⟨Fd, Fs, g1, g2, g3, g4, g5⟩ := h.devs
  refine (hD.crash _ _ _ _ kv torn cut g1).mono ?_
  rintro e w' ⟨rfl, r1, xs, r2, r3, r4⟩
  have e : d.img.length / 64 = n := by omega
  rw [e] at r3
  exact ⟨rfl, _, hQ xs r2 r3, g5 w' Fd Fs _ none r4 (fun k hk => g2 k hk) g3 (fun k hk => hk.imp_right .inl) (r1.mono (fun k _ h => .inl h))⟩
theorem QS.open (hD : DvSpec x D) (hn : 64 ≤ n) (hn2 : n ≤ 1000) (hN : NumLe N m) (hNl : N ≤ 100000) (h : QS D w bx dev d none c qs ms W) (hp : d.pend = []) (hL : LiesM n d.img m) :
    Calls Tryd.prog 11 #[.pointer (some ⟨dev, 0, none⟩)] W fun e w' => ∃ p', e = .returned (.tuple #[.pointer (some ⟨p', 0, none⟩), .nilIface]) ∧ QS D w bx dev d (some (p', usOf m)) c qs ms w' := by
  obtain ⟨Fd, Fs, g1, g2, g3, g4, g5⟩ := h.devs
  have hlt1 := hD.lt _ _ _ _ g1
  refine (open_raw hD g1 hp hL hn hn2 (fun g hg => by have := hN g hg; omega)).mono ?_
  rintro e w' ⟨p', Fs', vs', rfl, r1, r2, r3, r4⟩
  exact ⟨p', rfl, g5 w' Fd Fs' _ (some (p', usOf m)) r1 ⟨vs', r2⟩ (fun k h1 h2 => by have := hlt1 k h1; have := r3 k h2; omega) (fun k hk => hk.elim .inl (fun h => .inr (.inr (r3 k h)))) (Kept.of_below r4)⟩
theorem QS.same (hD : DvSpec x D) (hn : n ≤ 1000) (h : QS D w bx dev d (some (p, usOf m)) c qs ms W) (hp : d.pend = []) (hL : LiesM n d.img m) (hi : i < c) (hv : (ms i).Wf) (hvp : (ms i).places ≤ 900) (hN : NumLe N (ms i)) (hNl : N ≤ 100000) :
    Calls Tryd.prog 9 #[.pointer (some ⟨p, 0, none⟩), .pointer (some ⟨qs i, 0, none⟩)] W fun e w' => e = .returned (.bool (sameB m (ms i))) ∧ QS D w bx dev d (some (p, usOf m)) c qs ms w' := by
  have hQ := h
  obtain ⟨Fd, Fs, Gs, Ss, h0, h1, ⟨vs, h2⟩, h3, h4⟩ := h
  refine (same_store hD h1 hp hL h2 (h3 i hi).whole hn (by have := wf_len hv; omega) (by omega) (fun g hg => by have := hN g hg; omega)).mono ?_
  rintro e w' ⟨rfl, hb⟩
  exact ⟨rfl, hQ.below hD hb⟩
theorem QS.rappend (hD : DvSpec x D) (h : QS D w bx dev d st c qs ms W) (hi : i < c) (hs : Small (ms i)) (hb : Below W.heap.size W W') (vb : Value) (b : List UInt8) (hv : Bytes W' W'.heap.size vb b) (hvb : ∀ k, vb.ownBlock = some k → W.heap.size ≤ k) (ms' : Nat → StoD) (hm1 : ∀ j, j ≠ i → ms' j = ms j) (hm2 : ms' i = (appendD (ms i) b).1) :
    Calls Tryd.prog 23 #[.pointer (some ⟨qs i, 0, none⟩), vb] W' fun e w' => (∃ y, e = .returned y) ∧ QS D w bx dev d st c qs ms' w' := by
  obtain ⟨G, S, g1, g2, g3⟩ := h.ref hD hi
  have hlt := g1.lt
  have hzb := hb.size
  refine (rappend2 (g1.below hb) hs hv (Nat.le_refl _) (fun k e hk => by have := hvb k e; have := hlt k (.inl hk); omega)).mono ?_
  rintro e w' ⟨rfl, F', S', r1, r2, r3, r4⟩
  exact ⟨⟨_, rfl⟩, g3 w' F' S' _ r1 (fun k hk => (r2 k hk).imp_right (fun h => Nat.le_trans hzb h)) (fun k hk => (r3 k hk).imp_right (fun h => Nat.le_trans hzb h)) ((Kept.of_below (F := G) hb).trans r4 (fun k hk => .inl hk)) ms' hm1 hm2⟩
theorem QS.rdrop (hD : DvSpec x D) (h : QS D w bx dev d st c qs ms W) (hi : i < c) (hs : Small (ms i)) (k : Int) (ms' : Nat → StoD) (hm1 : ∀ j, j ≠ i → ms' j = ms j) (hm2 : ms' i = (dropD (ms i) k).1) :
    Calls Tryd.prog 21 #[.pointer (some ⟨qs i, 0, none⟩), .int .i64 k] W fun e w' => (∃ y, e = .returned (.int .i64 y)) ∧ QS D w bx dev d st c qs ms' w' := by
  obtain ⟨G, S, g1, g2, g3⟩ := h.ref hD hi
  refine (rdrop2 g1 hs k).mono ?_
  rintro e w' ⟨rfl, F', r1, r2, r4⟩
  exact ⟨⟨_, rfl⟩, g3 w' F' S _ r1 r2 (fun k hk => .inl hk) r4 ms' hm1 hm2⟩
theorem QS.take (hD : DvSpec x D) (h : QS D w bx dev d st c qs ms W) (hi : i < c) (hs : Small (ms i)) (ht : takeD (ms i) = some t) (ms' : Nat → StoD) (hm1 : ∀ j, j ≠ i → ms' j = ms j) (hm2 : ms' i = t) :
    Calls Tryd.prog 38 #[.pointer (some ⟨qs i, 0, none⟩)] W fun e w' => e = .returned (.bool true) ∧ QS D w bx dev d st c qs ms' w' := by
  obtain ⟨G, S, g1, g2, g3⟩ := h.ref hD hi
  refine (take2 g1 hs ht).mono ?_
  rintro e w' ⟨rfl, F', r1, r2, r4⟩
  exact ⟨rfl, g3 w' F' S _ r1 r2 (fun k hk => .inl hk) r4 ms' hm1 hm2⟩
theorem QS.fits (hD : DvSpec x D) (h : QS D w bx dev d st c qs ms W) (hi : i < c) (hs : Small (ms i)) (hb : Below W.heap.size W W') (A : Option Addr) (l cp : Nat) (hl : l ≤ 100000) :
    Calls Tryd.prog 37 #[.pointer (some ⟨qs i, 0, none⟩), .slice A l cp] W' fun e w' => e = .returned (.bool (fitsD (ms i).segs l)) ∧ QS D w bx dev d st c qs ms w' := by
  have h' := h.below hD hb
  obtain ⟨G, S, g1, g2, g3⟩ := h'.ref hD hi
  refine (fits2 g1 hs A l cp hl).mono ?_
  rintro e w' ⟨rfl, r1⟩
  exact ⟨rfl, h'.below hD r1⟩
theorem QS.copy (hD : DvSpec x D) (h : QS D w bx dev d st c qs ms W) (hi : i < c) (hs : Small (ms i)) :
    Calls Tryd.prog 34 #[.pointer (some ⟨qs i, 0, none⟩)] W fun e w' => ∃ q, e = .returned (.pointer (some ⟨q, 0, none⟩)) ∧ ∀ qs' ms', (∀ j, j < c → qs' j = qs j ∧ ms' j = ms j) → qs' c = q → ms' c = ms i → QS D w bx dev d st (c + 1) qs' ms' w' := by
  obtain ⟨G, S, g1, g2⟩ := h.copied hD hi
  refine (copy_any g1 (by have := hs.segs; omega) (fun g hg => (hs.each g hg).2.2)).mono ?_
  rintro e w' ⟨q, F', rfl, r1, r2, r3⟩
  exact ⟨q, rfl, g2 w' F' q r1 r2 r3⟩
end
end Go.Proofs.YtidbmagpnaingaaDoor

/- A call that a loss of power breaks off: what is opened behind it is one of the document's stores. -/
namespace Go.Proofs.YtidbmagpnaingaaDoor
open Go.RowKit Go.Shelf Tide

/-- An act, perhaps broken off. -/
structure LifeS where
  act : ActS
  breaks : Bool
  after : Int
  kept : Int
  torn : Int
  cut : Int
abbrev LifeS.cells (l : LifeS) : Array Value := #[.int .i64 l.act.len, .int .i64 l.act.n, .int .u8 (l.act.byte.toNat : Int), .bool l.act.drops, .bool l.act.opens, .bool l.breaks, .int .i64 l.after, .int .u64 l.kept, .int .i64 l.torn, .int .i64 l.cut]
/-- Which store is opened, by the error's number. -/
def Kind (m mb : StoD) (T : Prop) (r : Nat) (mx : StoD) : Prop :=
  (mx = mb ∧ r = 0) ∨ (mx = mb ∧ r = 12) ∨ (mx = m ∧ mb = m ∧ r ≠ 0 ∧ r ≠ 12) ∨ (mx = m ∧ r = 12 ∧ sameB m mb = false) ∨ (r = 12 ∧ T ∧ takeD m = some mx ∧ sameB mx mb = false ∧ sameB mx m = false)
theorem outc_kind {n : Nat} {m mb : StoD} {T : Prop} {r : Nat} {d : Dv} (h : Outc n m mb T r d) (hsm : sameB m mb = true → mb = m) (htk : T → ∀ t, takeD m = some t → sameB t mb = false) : Lost n d (fun im => ∃ mx, LiesM n im mx ∧ Kind m mb T r mx) := by
  intro xs hx hf
  rcases h.2 with ⟨h1, h2, h3, h4⟩ | ⟨h1, h2⟩ | ⟨h1, h2⟩
  · exact ⟨m, h4 xs hx hf, .inr (.inr (.inl ⟨rfl, h3, h1, h2⟩))⟩
  · exact ⟨mb, h2 xs hx hf, .inl ⟨rfl, h1⟩⟩
  · rcases h2 xs hx hf with h3 | h3 | ⟨h3, t, h4, h5⟩
    · cases hs : sameB m mb with
      | true => exact ⟨m, h3, .inr (.inl ⟨(hsm hs).symm, h1⟩)⟩
      | false => exact ⟨m, h3, .inr (.inr (.inr (.inl ⟨rfl, h1, hs⟩)))⟩
    · exact ⟨mb, h3, .inr (.inl ⟨rfl, h1⟩)⟩
    · exact ⟨t, h5, .inr (.inr (.inr (.inr ⟨h1, h3, h4, htk h3 t h4, takeD_same h4⟩)))⟩
theorem kind_num {N : Nat} {m mb : StoD} {T : Prop} {r : Nat} {mx : StoD} (h : Kind m mb T r mx) (h1 : NumLe N m) (h2 : NumLe (N + 1) mb) : NumLe (N + 1) mx := by
  rcases h with ⟨rfl, _⟩ | ⟨rfl, _⟩ | ⟨rfl, _⟩ | ⟨rfl, _⟩ | ⟨_, _, h3, _⟩
  · exact h2
  · exact h2
  · exact h1.mono (Nat.le_succ _)
  · exact h1.mono (Nat.le_succ _)
  · exact takeD_num h1 h3
theorem err_twelve {a : Nat → Addr} {y : Value} (h : IsErr a y 12) : y = errAt (a 11) := by
  rcases h with ⟨h, _⟩ | ⟨k, _, h2, h3⟩
  · cases h
  · have : k = 11 := by omega
    subst this
    exact h3
theorem err_zero {a : Nat → Addr} {y : Value} (h : IsErr a y 0) : y = .nilIface := by
  rcases h with ⟨_, h⟩ | ⟨k, _, h2, _⟩
  · exact h
  · omega
theorem err_some {a : Nat → Addr} {y : Value} {r : Nat} (h : IsErr a y r) (hr : r ≠ 0) : ∃ k, k < 19 ∧ y = errAt (a k) := by
  rcases h with ⟨h, _⟩ | ⟨k, h1, _, h3⟩
  · exact absurd h hr
  · exact ⟨k, h1, h3⟩
/-- The document's stores at hand: w, behind, taken. -/
def three' (q q1 q2 : Nat) : Nat → Nat := fun j => if j = 0 then q else if j = 1 then q1 else q2
def threeM (m mb t : StoD) : Nat → StoD := fun j => if j = 1 then mb else if j = 2 then t else m
section
variable {D : DvP} {a : Nat → Addr} {w W : World} {bx : Nat → Obj → Prop} {p dev q n N : Nat} {m : StoD}
set_option maxRecDepth 100000 in
set_option maxHeartbeats 8000000 in
theorem broken_any (hD : DvSpec (three a) D) (hE : Errs w a) (hn : 64 ≤ n) (hn2 : n ≤ 1000) (hN : NumLe N m) (hNl : N ≤ 90000) (h : PS D w bx p dev q n m m W) (l : LifeS) (hla : l.after ≤ 9223372036854775807) :
    Calls Tryd.prog 12 #[.pointer (some ⟨dev, 0, none⟩), .pointer (some ⟨p, 0, none⟩), .pointer (some ⟨q, 0, none⟩), .agg l.cells] W fun e w' => ∃ p' q' m', e = .returned (.tuple #[.pointer (some ⟨p', 0, none⟩), .pointer (some ⟨q', 0, none⟩), .bool true]) ∧ NumLe (N + 1) m' ∧ PS D w bx p' dev q' n m' m' w' := by
  have hwf := h.wf
  have hsm := small_of hwf.1 (by have := hwf.2; omega) hN (by omega)
  obtain ⟨⟨len, k, byte, drops, opens⟩, breaks, after, kept, torn, cut⟩ := l
  simp only at hla
  have h1 := h.more hD (.cells #[.int .i64 len, .int .i64 k, .int .u8 (byte.toNat : Int), .bool drops, .bool opens, .bool breaks, .int .i64 after, .int .u64 kept, .int .i64 torn, .int .i64 cut] 43)
  obtain ⟨W1, hW1⟩ : ∃ W1, W.alloc (.cells #[.int .i64 len, .int .i64 k, .int .u8 (byte.toNat : Int), .bool drops, .bool opens, .bool breaks, .int .i64 after, .int .u64 kept, .int .i64 torn, .int .i64 cut] 43) = W1 := ⟨_, rfl⟩
  have HW1 := Lib.hid hW1
  rw [hW1] at h1
  obtain ⟨bx1, hbx1⟩ : ∃ bx1, bx1 = fun b u => bx b u ∨ (b = W.heap.size ∧ u = .cells #[.int .i64 len, .int .i64 k, .int .u8 (byte.toNat : Int), .bool drops, .bool opens, .bool breaks, .int .i64 after, .int .u64 kept, .int .i64 torn, .int .i64 cut] 43) := ⟨_, rfl⟩
  have hin : bx1 W.heap.size (.cells #[.int .i64 len, .int .i64 k, .int .u8 (byte.toNat : Int), .bool drops, .bool opens, .bool breaks, .int .i64 after, .int .u64 kept, .int .i64 torn, .int .i64 cut] 43) := by rw [hbx1]; exact .inr ⟨rfl, rfl⟩
  have HBx := Lib.hid (show ∀ b o, bx b o → bx1 b o by rw [hbx1]; exact fun b o h => .inl h)
  rw [← hbx1] at h1
  have HC := Lib.hid (fun (X : World) (ho : X.heap[W.heap.size]? = some (.cells #[.int .i64 len, .int .i64 k, .int .u8 (byte.toNat : Int), .bool drops, .bool opens, .bool breaks, .int .i64 after, .int .u64 kept, .int .i64 torn, .int .i64 cut] 43)) =>
    show X.cell? ⟨W.heap.size, 0, none⟩ = some (.int .i64 len) ∧ X.cell? ⟨W.heap.size, 1, none⟩ = some (.int .i64 k) ∧ X.cell? ⟨W.heap.size, 2, none⟩ = some (.int .u8 (byte.toNat : Int)) ∧ X.cell? ⟨W.heap.size, 3, none⟩ = some (.bool drops) ∧ X.cell? ⟨W.heap.size, 4, none⟩ = some (.bool opens) ∧ X.cell? ⟨W.heap.size, 5, none⟩ = some (.bool breaks) ∧ X.cell? ⟨W.heap.size, 6, none⟩ = some (.int .i64 after) ∧ X.cell? ⟨W.heap.size, 7, none⟩ = some (.int .u64 kept) ∧ X.cell? ⟨W.heap.size, 8, none⟩ = some (.int .i64 torn) ∧ X.cell? ⟨W.heap.size, 9, none⟩ = some (.int .i64 cut) from
      ⟨by rw [cell_of_row _ _ 0 _ _ _ ho]; rfl, by rw [cell_of_row _ _ 1 _ _ _ ho]; rfl, by rw [cell_of_row _ _ 2 _ _ _ ho]; rfl, by rw [cell_of_row _ _ 3 _ _ _ ho]; rfl, by rw [cell_of_row _ _ 4 _ _ _ ho]; rfl, by rw [cell_of_row _ _ 5 _ _ _ ho]; rfl, by rw [cell_of_row _ _ 6 _ _ _ ho]; rfl, by rw [cell_of_row _ _ 7 _ _ _ ho]; rfl, by rw [cell_of_row _ _ 8 _ _ _ ho]; rfl, by rw [cell_of_row _ _ 9 _ _ _ ho]; rfl⟩)
  have HIn := Lib.hid hin
  obtain ⟨d, hq1, hp1, hs1, hL1⟩ := QS.of_ps h1
  have HQ1 := Lib.hid hq1
  have HP1 := Lib.hid hp1
  have HS1 := Lib.hid hs1
  have HL1 := Lib.hid hL1
  have HSm := Lib.hid hsm
  have HN := Lib.hid hN
  have HWf := Lib.hid hwf.1
  have HPl := Lib.hid (show m.places ≤ 900 by have := hwf.2; omega)
  have HHold := Lib.hid (fun (X : World) (dd : Dv) (st : Option (Nat × List SegU)) (c : Nat) (qs : Nat → Nat) (ms : Nat → StoD) (hX : QS D w bx1 dev dd st c qs ms X) => HC.out X (hX.boxed HIn.out))
  have CC1 := Lib.hid (HQ1.out.copy hD (i := 0) (by omega) HSm.out)
  clear hbx1 hin h h1 hsm hN hwf hW1 hq1 hp1 hs1 hL1
  go_enter Tryd.func12, Tryd.ntmps12
  go_wp2_with fail
  rw [HW1.out]
  refine CC1.out.mono ?_
  rintro en w2 ⟨q1, rfl, g2⟩
  have HQ2 := Lib.hid (g2 (fun j => if j = 0 then q else q1) (fun _ => m) (fun j hj => by
    obtain rfl : j = 0 := by omega
    exact ⟨rfl, rfl⟩) rfl rfl)
  have CC2 := Lib.hid (HQ2.out.copy hD (i := 0) (by omega) HSm.out)
  clear g2 CC1
  go_wp2_with fail
  refine CC2.out.mono ?_
  rintro en w3 ⟨q2, rfl, g3⟩
  have HQ3 := Lib.hid (g3 (three' q q1 q2) (threeM m m m) (fun j hj => by
    have : j = 0 ∨ j = 1 := by omega
    rcases this with rfl | rfl <;> exact ⟨rfl, rfl⟩) rfl rfl)
  obtain ⟨c0, c1, c2, c3, c4, c5, c6, c7, c8, c9⟩ := HHold.out _ _ _ _ _ _ HQ3.out
  have CSt := Lib.hid (HQ3.out.stop hD HS1.out after hla)
  clear g3 CC2
  go_wp2_with fail
  refine CSt.out.mono ?_
  rintro en w4 ⟨rfl, h4⟩
  obtain ⟨d0, d1, d2, d3, d4, d5, d6, d7, d8, d9⟩ := HHold.out _ _ _ _ _ _ h4
  have HQ4 := Lib.hid h4
  clear h4 CSt c0 c1 c2 c3 c4 c5 c6 c7 c8 c9
  cases drops with
  | true =>
    have CD := Lib.hid (HQ4.out.drop hD hE hn2 HP1.out HL1.out k)
    obtain ⟨mb, hmb⟩ : ∃ mb, (dropD m k).1 = mb := ⟨_, rfl⟩
    have HMb := Lib.hid (show NumLe (N + 1) mb ∧ mb.Wf ∧ mb.places ≤ 900 by rw [← hmb]; exact ⟨(drop_num HN.out).mono (Nat.le_succ _), drop_wf HWf.out k, by rw [drop_places]; exact HPl.out⟩)
    have HSame := Lib.hid (show sameB m mb = true → mb = m by rw [← hmb]; exact drop_same)
    have HTk := Lib.hid (show False → ∀ t, takeD m = some t → sameB t mb = false from fun h => h.elim)
    have HRd := Lib.hid (fun (X : World) (dd : Dv) (hX : QS D w bx1 dev dd none 3 (three' q q1 q2) (threeM m m m) X) => hX.rdrop hD (i := 1) (by omega) HSm.out k (threeM m mb m) (fun j hj => by unfold threeM; rw [if_neg hj, if_neg hj]) (by rw [← hmb]; rfl))
    rw [hmb] at CD
    clear hmb
    go_wp2_with fail
    refine CD.out.mono ?_
    rintro en w5 ⟨y, r, dd, rfl, hy, ho, h5⟩
    obtain ⟨c0, c1, c2, c3, c4, c5, c6, c7, c8, c9⟩ := HHold.out _ _ _ _ _ _ h5
    have HY := Lib.hid hy
    have HO := Lib.hid ho
    have CR := Lib.hid (HRd.out w5 dd h5)
    clear hy ho h5 CD HRd d0 d1 d2 d3 d4 d5 d6 d7 d8 d9
    go_wp2_with fail
    refine CR.out.mono ?_
    rintro en w6 ⟨⟨z, rfl⟩, h6⟩
    clear CR c0 c1 c2 c3 c4 c5 c6 c7 c8 c9
    obtain ⟨c0, c1, c2, c3, c4, c5, c6, c7, c8, c9⟩ := HHold.out _ _ _ _ _ _ h6
    have CX := Lib.hid (h6.crash hD HO.out.1 (outc_kind HO.out HSame.out HTk.out) kept torn cut)
    clear h6 HQ1 HQ2 HQ3 HQ4
    go_wp2_with fail
    refine CX.out.mono ?_
    rintro en w7 ⟨rfl, im, ⟨mx, hlx, hkx⟩, h7⟩
    have hnx := kind_num hkx HN.out HMb.out.1
    have CO := Lib.hid (h7.open hD hn hn2 hnx (by omega) rfl hlx)
    have HLx := Lib.hid hlx
    have HNx := Lib.hid hnx
    have HKx := Lib.hid hkx
    clear hlx hkx hnx h7 CX c0 c1 c2 c3 c4 c5 c6 c7 c8 c9
    go_wp2_with fail
    refine CO.out.mono ?_
    rintro en w8 ⟨p', rfl, h8⟩
    have CS1 := h8.same hD hn2 rfl HLx.out (i := 1) (by omega) HMb.out.2.1 HMb.out.2.2 HMb.out.1 (by omega)
    have HS2 := Lib.hid (fun (X : World) (hX : QS D w bx1 dev ⟨im, [], none⟩ (some (p', usOf mx)) 3 (three' q q1 q2) (threeM m mb m) X) => hX.same hD hn2 rfl HLx.out (i := 0) (by omega) HWf.out HPl.out HN.out (by omega))
    have HNum := Lib.hid (fun (X : World) (hX : QS D w bx1 dev ⟨im, [], none⟩ (some (p', usOf mx)) 3 (three' q q1 q2) (threeM m mb m) X) => num_any a y r X (hE.below hX.since) HY.out)
    have HNum2 := Lib.hid (fun (X : World) (hX : QS D w bx1 dev ⟨im, [], none⟩ (some (p', usOf mx)) 3 (three' q q1 q2) (threeM m mb mx) X) => num_any a y r X (hE.below hX.since) HY.out)
    have e0 : threeM m mb m 0 = m := rfl
    have e1 : threeM m mb m 1 = mb := rfl
    have f0 : three' q q1 q2 0 = q := rfl
    have f1 : three' q q1 q2 1 = q1 := rfl
    rw [e1, f1] at CS1
    rw [e0, f0] at HS2
    clear e0 e1 f0 f1 CO
    rcases HKx.out with ⟨rfl, rfl⟩ | ⟨rfl, rfl⟩ | ⟨rfl, e3, e4, e5⟩ | ⟨rfl, rfl, e3⟩ | ⟨rfl, e2, e3, e4, e5⟩
    · have hy := err_zero HY.out
      subst hy
      rw [same_refl HMb.out.2.1] at CS1
      have CS := Lib.hid CS1
      clear CS1 h8 HS2 HNum HNum2
      go_wp2_with fail
      refine CS.out.mono ?_
      rintro en w9 ⟨rfl, h9⟩
      have HR := Lib.hid ((h9.to_ps hD (i := 1) (by omega) rfl rfl HLx.out rfl rfl).fewer HBx.out)
      clear h9 CS
      go_wp2_with fail
      go_ret3
      exact ⟨p', q1, mx, rfl, HNx.out, HR.out⟩
    · have hy := err_twelve HY.out
      subst hy
      rw [same_refl HMb.out.2.1] at CS1
      have CS := Lib.hid CS1
      clear CS1 h8 HS2 HNum2
      go_wp2_with fail
      refine CS.out.mono ?_
      rintro en w9 ⟨rfl, h9⟩
      have HR := Lib.hid h9
      have CN := Lib.hid (HNum.out w9 h9)
      clear h9 CS HNum
      go_wp2_with fail
      refine CN.out.mono ?_
      rintro en w10 ⟨rfl, hb10⟩
      have HR2 := Lib.hid (((HR.out.below hD hb10).to_ps hD (i := 1) (by omega) rfl rfl HLx.out rfl rfl).fewer HBx.out)
      clear hb10 CN HR
      go_wp2_with fail
      go_ret3
      exact ⟨p', q1, mx, rfl, HNx.out, HR2.out⟩
    · obtain ⟨ke, hke, hy⟩ := err_some HY.out e4
      subst hy
      have hsmb : sameB mx mb = true := by rw [e3]; exact same_refl HWf.out
      rw [hsmb] at CS1
      have CS := Lib.hid CS1
      have HRb := Lib.hid e3
      have qr : ((r : Int) == 12) = false := by rw [beq_eq_false_iff_ne]; omega
      have qr2 : (r == 12) = false := by rw [beq_eq_false_iff_ne]; omega
      clear CS1 h8 HNum2 e3 e4 e5 hsmb
      go_wp2_with fail
      refine CS.out.mono ?_
      rintro en w9 ⟨rfl, h9⟩
      have HR := Lib.hid h9
      have CN := Lib.hid (HNum.out w9 h9)
      clear h9 CS HNum
      go_wp2_with fail
      refine CN.out.mono ?_
      rintro en w10 ⟨rfl, hb10⟩
      have CS2 := HS2.out w10 (HR.out.below hD hb10)
      rw [same_refl HWf.out] at CS2
      have CS3 := Lib.hid CS2
      clear hb10 CN HR HS2 CS2
      go_wp2_with fail
      refine CS3.out.mono ?_
      rintro en w11 ⟨rfl, h11⟩
      have HR2 := Lib.hid ((h11.to_ps hD (i := 0) (by omega) rfl rfl HLx.out rfl rfl).fewer HBx.out)
      clear h11 CS3
      go_wp2_with fail
      go_ret3
      exact ⟨p', q, mx, rfl, HNx.out, HR2.out⟩
    · have hy := err_twelve HY.out
      subst hy
      rw [e3] at CS1
      have CS := Lib.hid CS1
      clear CS1 h8 HNum HNum2 e3
      go_wp2_with fail
      refine CS.out.mono ?_
      rintro en w9 ⟨rfl, h9⟩
      have CS2 := HS2.out w9 h9
      rw [same_refl HWf.out] at CS2
      have CS3 := Lib.hid CS2
      clear h9 CS HS2 CS2
      go_wp2_with fail
      refine CS3.out.mono ?_
      rintro en w11 ⟨rfl, h11⟩
      have HR2 := Lib.hid ((h11.to_ps hD (i := 0) (by omega) rfl rfl HLx.out rfl rfl).fewer HBx.out)
      clear h11 CS3
      go_wp2_with fail
      go_ret3
      exact ⟨p', q, mx, rfl, HNx.out, HR2.out⟩
    · exact e2.elim
  | false =>
    obtain ⟨c, hc⟩ : ∃ c : ActS, c = ⟨len, k, byte, false, opens⟩ := ⟨_, rfl⟩
    have HRec := Lib.hid (fun X => show Calls Tryd.prog 22 #[.agg #[.int .i64 len, .int .i64 k, .int .u8 (byte.toNat : Int), .bool false, .bool opens]] X (fun e w' => ∃ A cp, e = .returned (.slice A c.size cp) ∧ Hid (w'.ownsRow X.heap.size 5 1 (.slice A c.size cp) c.size (u8s c.bs)) ∧ Below X.heap.size X w') from by
      rw [hc]
      refine (record_any ⟨len, k, byte, false, opens⟩ X).mono ?_
      rintro e w' ⟨v, rfl, h1, h2⟩
      obtain ⟨A, cp, rfl⟩ : ∃ A cp, v = .slice A (ActS.size ⟨len, k, byte, false, opens⟩) cp := by
        rcases h1.2 with ⟨h, h0⟩ | ⟨g, cap, cur, h, _⟩
        · exact ⟨none, 0, by rw [h, h0]⟩
        · exact ⟨_, cap, h⟩
      exact ⟨A, cp, rfl, Lib.hid h1, h2⟩)
    have hbl : c.bs.length = c.size := c.bs_len
    have hsz : c.size ≤ 3970 := c.size_le
    have HSz := Lib.hid hsz
    obtain ⟨mb, hmb⟩ : ∃ mb, (appendD m c.bs).1 = mb := ⟨_, rfl⟩
    have HMb := Lib.hid (show NumLe (N + 1) mb ∧ mb.Wf ∧ mb.places ≤ 900 by rw [← hmb]; exact ⟨append_num HN.out, append_wf HWf.out _, by rw [append_places]; exact HPl.out⟩)
    have HSame := Lib.hid (show sameB m mb = true → mb = m by rw [← hmb]; exact append_same HWf.out)
    have HTk := Lib.hid (show fitsD m.segs c.size = false → ∀ t, takeD m = some t → sameB t mb = false from fun hf t ht => by rw [← hmb]; exact take_append_same HWf.out ht (by rw [hbl]; exact hf))
    have HRa := Lib.hid (fun (X X' : World) (dd : Dv) (vb : Value) (hX : QS D w bx1 dev dd none 3 (three' q q1 q2) (threeM m m m) X) (hb : Below X.heap.size X X') (ho : X'.ownsRow X.heap.size 5 1 vb c.size (u8s c.bs)) => hX.rappend hD (i := 1) (by omega) HSm.out hb vb c.bs (Bytes.of_own ho) (fun k e => (ho.lt k e).1) (threeM m mb m) (fun j hj => by unfold threeM; rw [if_neg hj, if_neg hj]) (by rw [← hmb]; rfl))
    have HAp := Lib.hid (fun (X' : World) (vb : Value) (hb : Below w4.heap.size w4 X') (ho : X'.ownsRow w4.heap.size 5 1 vb c.size (u8s c.bs)) => by
      have := HQ4.out.append hD hE hn2 HN.out (by omega) HP1.out HL1.out hb vb c.bs (Bytes.of_own ho) (fun k e => (ho.lt k e).1)
      rw [hmb, hbl] at this
      exact this)
    clear hmb hc hbl hsz
    go_wp2_with fail
    refine (HRec.out w4).mono ?_
    rintro en w5 ⟨A5, cp5, rfl, ho5, hb5⟩
    have CA := Lib.hid (HAp.out w5 _ hb5 ho5.out)
    clear ho5 hb5 HAp d0 d1 d2 d3 d4 d5 d6 d7 d8 d9
    go_wp2_with fail
    refine CA.out.mono ?_
    rintro en w5b ⟨kk, y, r, dd, rfl, hy, ho, h5⟩
    obtain ⟨c0, c1, c2, c3, c4, c5, c6, c7, c8, c9⟩ := HHold.out _ _ _ _ _ _ h5
    have HY := Lib.hid hy
    have HO := Lib.hid ho
    have HQ5 := Lib.hid h5
    clear hy ho h5 CA
    go_wp2_with fail
    refine (HRec.out w5b).mono ?_
    rintro en w5c ⟨A6, cp6, rfl, ho6, hb6⟩
    have CR := Lib.hid (HRa.out w5b w5c dd _ HQ5.out hb6 ho6.out)
    clear ho6 hb6 HRa HQ5 c0 c1 c2 c3 c4 c5 c6 c7 c8 c9
    go_wp2_with fail
    refine CR.out.mono ?_
    rintro en w6 ⟨⟨z, rfl⟩, h6⟩
    clear CR
    obtain ⟨c0, c1, c2, c3, c4, c5, c6, c7, c8, c9⟩ := HHold.out _ _ _ _ _ _ h6
    have CX := Lib.hid (h6.crash hD HO.out.1 (outc_kind HO.out HSame.out HTk.out) kept torn cut)
    clear h6 HQ1 HQ2 HQ3 HQ4
    go_wp2_with fail
    refine CX.out.mono ?_
    rintro en w7 ⟨rfl, im, ⟨mx, hlx, hkx⟩, h7⟩
    have hnx := kind_num hkx HN.out HMb.out.1
    have CO := Lib.hid (h7.open hD hn hn2 hnx (by omega) rfl hlx)
    have HLx := Lib.hid hlx
    have HNx := Lib.hid hnx
    have HKx := Lib.hid hkx
    clear hlx hkx hnx h7 CX c0 c1 c2 c3 c4 c5 c6 c7 c8 c9
    go_wp2_with fail
    refine CO.out.mono ?_
    rintro en w8 ⟨p', rfl, h8⟩
    have CS1 := h8.same hD hn2 rfl HLx.out (i := 1) (by omega) HMb.out.2.1 HMb.out.2.2 HMb.out.1 (by omega)
    have HS2 := Lib.hid (fun (X : World) (hX : QS D w bx1 dev ⟨im, [], none⟩ (some (p', usOf mx)) 3 (three' q q1 q2) (threeM m mb m) X) => hX.same hD hn2 rfl HLx.out (i := 0) (by omega) HWf.out HPl.out HN.out (by omega))
    have HNum := Lib.hid (fun (X : World) (hX : QS D w bx1 dev ⟨im, [], none⟩ (some (p', usOf mx)) 3 (three' q q1 q2) (threeM m mb m) X) => num_any a y r X (hE.below hX.since) HY.out)
    have HNum2 := Lib.hid (fun (X : World) (hX : QS D w bx1 dev ⟨im, [], none⟩ (some (p', usOf mx)) 3 (three' q q1 q2) (threeM m mb mx) X) => num_any a y r X (hE.below hX.since) HY.out)
    have e0 : threeM m mb m 0 = m := rfl
    have e1 : threeM m mb m 1 = mb := rfl
    have f0 : three' q q1 q2 0 = q := rfl
    have f1 : three' q q1 q2 1 = q1 := rfl
    rw [e1, f1] at CS1
    rw [e0, f0] at HS2
    clear e0 e1 f0 f1 CO
    rcases HKx.out with ⟨rfl, rfl⟩ | ⟨rfl, rfl⟩ | ⟨rfl, e3, e4, e5⟩ | ⟨rfl, rfl, e3⟩ | ⟨rfl, e2, e3, e4, e5⟩
    · have hy := err_zero HY.out
      subst hy
      rw [same_refl HMb.out.2.1] at CS1
      have CS := Lib.hid CS1
      clear CS1 h8 HS2 HNum HNum2
      go_wp2_with fail
      refine CS.out.mono ?_
      rintro en w9 ⟨rfl, h9⟩
      have HR := Lib.hid ((h9.to_ps hD (i := 1) (by omega) rfl rfl HLx.out rfl rfl).fewer HBx.out)
      clear h9 CS
      go_wp2_with fail
      go_ret3
      exact ⟨p', q1, mx, rfl, HNx.out, HR.out⟩
    · have hy := err_twelve HY.out
      subst hy
      rw [same_refl HMb.out.2.1] at CS1
      have CS := Lib.hid CS1
      clear CS1 h8 HS2 HNum2
      go_wp2_with fail
      refine CS.out.mono ?_
      rintro en w9 ⟨rfl, h9⟩
      have HR := Lib.hid h9
      have CN := Lib.hid (HNum.out w9 h9)
      clear h9 CS HNum
      go_wp2_with fail
      refine CN.out.mono ?_
      rintro en w10 ⟨rfl, hb10⟩
      have HR2 := Lib.hid (((HR.out.below hD hb10).to_ps hD (i := 1) (by omega) rfl rfl HLx.out rfl rfl).fewer HBx.out)
      clear hb10 CN HR
      go_wp2_with fail
      go_ret3
      exact ⟨p', q1, mx, rfl, HNx.out, HR2.out⟩
    · obtain ⟨ke, hke, hy⟩ := err_some HY.out e4
      subst hy
      have hsmb : sameB mx mb = true := by rw [e3]; exact same_refl HWf.out
      rw [hsmb] at CS1
      have CS := Lib.hid CS1
      have HRb := Lib.hid e3
      have qr : ((r : Int) == 12) = false := by rw [beq_eq_false_iff_ne]; omega
      have qr2 : (r == 12) = false := by rw [beq_eq_false_iff_ne]; omega
      clear CS1 h8 HNum2 e3 e4 e5 hsmb
      go_wp2_with fail
      refine CS.out.mono ?_
      rintro en w9 ⟨rfl, h9⟩
      have HR := Lib.hid h9
      have CN := Lib.hid (HNum.out w9 h9)
      clear h9 CS HNum
      go_wp2_with fail
      refine CN.out.mono ?_
      rintro en w10 ⟨rfl, hb10⟩
      have CS2 := HS2.out w10 (HR.out.below hD hb10)
      rw [same_refl HWf.out] at CS2
      have CS3 := Lib.hid CS2
      clear hb10 CN HR HS2 CS2
      go_wp2_with fail
      refine CS3.out.mono ?_
      rintro en w11 ⟨rfl, h11⟩
      have HR2 := Lib.hid ((h11.to_ps hD (i := 0) (by omega) rfl rfl HLx.out rfl rfl).fewer HBx.out)
      clear h11 CS3
      go_wp2_with fail
      go_ret3
      exact ⟨p', q, mx, rfl, HNx.out, HR2.out⟩
    · have hy := err_twelve HY.out
      subst hy
      rw [e3] at CS1
      have CS := Lib.hid CS1
      clear CS1 h8 HNum HNum2 e3
      go_wp2_with fail
      refine CS.out.mono ?_
      rintro en w9 ⟨rfl, h9⟩
      have CS2 := HS2.out w9 h9
      rw [same_refl HWf.out] at CS2
      have CS3 := Lib.hid CS2
      clear h9 CS HS2 CS2
      go_wp2_with fail
      refine CS3.out.mono ?_
      rintro en w11 ⟨rfl, h11⟩
      have HR2 := Lib.hid ((h11.to_ps hD (i := 0) (by omega) rfl rfl HLx.out rfl rfl).fewer HBx.out)
      clear h11 CS3
      go_wp2_with fail
      go_ret3
      exact ⟨p', q, mx, rfl, HNx.out, HR2.out⟩
    · have hy := err_twelve HY.out
      subst hy
      rw [e4] at CS1
      have CS := Lib.hid CS1
      have HE2 := Lib.hid e2
      have HE3 := Lib.hid e3
      have HE5 := Lib.hid e5
      have HFi := Lib.hid (fun (X X' : World) (A : Option Addr) (cp : Nat) (hX : QS D w bx1 dev ⟨im, [], none⟩ (some (p', usOf mx)) 3 (three' q q1 q2) (threeM m mb m) X) (hb : Below X.heap.size X X') => show Calls Tryd.prog 37 #[.pointer (some ⟨q, 0, none⟩), .slice A c.size cp] X' _ from hX.fits hD (i := 0) (by omega) HSm.out hb A c.size cp (by have := HSz.out; omega))
      have HTa := Lib.hid (fun (X : World) (hX : QS D w bx1 dev ⟨im, [], none⟩ (some (p', usOf mx)) 3 (three' q q1 q2) (threeM m mb m) X) => show Calls Tryd.prog 38 #[.pointer (some ⟨q2, 0, none⟩)] X _ from hX.take hD (i := 2) (by omega) HSm.out HE3.out (threeM m mb mx) (fun j hj => by unfold threeM; rw [if_neg hj, if_neg hj]) rfl)
      clear CS1 h8 HNum e2 e3 e4 e5
      go_wp2_with fail
      refine CS.out.mono ?_
      rintro en w9 ⟨rfl, h9⟩
      have CS2 := HS2.out w9 h9
      rw [HE5.out] at CS2
      have CS3 := Lib.hid CS2
      clear h9 CS HS2 CS2
      go_wp2_with fail
      refine CS3.out.mono ?_
      rintro en w10 ⟨rfl, h10⟩
      obtain ⟨c0, c1, c2, c3, c4, c5, c6, c7, c8, c9⟩ := HHold.out _ _ _ _ _ _ h10
      have HR := Lib.hid h10
      clear h10 CS3
      go_wp2_with fail
      refine (HRec.out w10).mono ?_
      rintro en w11 ⟨A7, cp7, rfl, ho7, hb7⟩
      have CF := HFi.out w10 w11 A7 cp7 HR.out hb7
      have e0 : threeM m mb m 0 = m := rfl
      rw [e0, HE2.out] at CF
      have CF2 := Lib.hid CF
      clear CF e0 ho7 hb7 HR HFi c0 c1 c2 c3 c4 c5 c6 c7 c8 c9
      go_wp2_with fail
      refine CF2.out.mono ?_
      rintro en w12 ⟨rfl, h12⟩
      have CT := Lib.hid (HTa.out w12 h12)
      clear h12 CF2 HTa
      go_wp2_with fail
      refine CT.out.mono ?_
      rintro en w13 ⟨rfl, h13⟩
      have CN := Lib.hid (HNum2.out w13 h13)
      have HR13 := Lib.hid h13
      clear h13 CT HNum2
      go_wp2_with fail
      refine CN.out.mono ?_
      rintro en w14 ⟨rfl, hb14⟩
      have hwt := take_wf HWf.out HE3.out
      have CS4 := (HR13.out.below hD hb14).same hD hn2 rfl HLx.out (i := 2) (by omega) hwt (by show mx.places ≤ 900; rw [take_places HE3.out]; exact HPl.out) HNx.out (by omega)
      have e2' : threeM m mb mx 2 = mx := rfl
      have f2' : three' q q1 q2 2 = q2 := rfl
      rw [e2', f2', same_refl hwt] at CS4
      have CS5 := Lib.hid CS4
      clear CS4 e2' f2' hb14 CN HR13 hwt
      go_wp2_with fail
      refine CS5.out.mono ?_
      rintro en w15 ⟨rfl, h15⟩
      have HR15 := Lib.hid ((h15.to_ps hD (i := 2) (by omega) rfl rfl HLx.out rfl rfl).fewer HBx.out)
      clear h15 CS5
      go_wp2_with fail
      go_ret3
      exact ⟨p', q2, mx, rfl, HNx.out, HR15.out⟩
end
end Go.Proofs.YtidbmagpnaingaaDoor

/- The law of losses of power, walked over what devices and stores do. -/
namespace Go.Proofs.YtidbmagpnaingaaDoor
open Go.RowKit Go.Shelf Tide

/-- Acts that may be broken off, in memory. -/
def LivesS (w : World) (B : Nat) (v : Value) (ks : List LifeS) : Prop := Recs w B v 10 (ks.map fun k => k.cells.toList) ∧ ∀ k ∈ ks, k.after ≤ 9223372036854775807
theorem LivesS.form {w : World} {B : Nat} {v : Value} {ks : List LifeS} (h : LivesS w B v ks) : ∃ A c, v = .slice A ks.length c ∧ ks.length ≤ 9223372036854775807 ∧ ∀ i (hi : i < ks.length), ∃ b o, A = some ⟨b, o, none⟩ ∧ b < B ∧ ∀ j u, (ks[i]).cells.toList[j]? = some u → w.cell? ⟨b, o + i * 10 + j, none⟩ = some u := by
  obtain ⟨⟨hn, A, c, rfl, hc⟩, _⟩ := h
  refine ⟨A, c, by rw [List.length_map], by simpa using hn, fun i hi => ?_⟩
  obtain ⟨b, o, rfl, hb, hcell⟩ := hc (by
    intro e
    have h9 : (ks.map fun k => k.cells.toList).length = 0 := by rw [e]; rfl
    rw [List.length_map] at h9
    omega)
  have he : (ks.map fun k => k.cells.toList)[i]? = some (ks[i]).cells.toList := by simp [hi]
  exact ⟨b, o, rfl, hb, fun j u hu => by rw [Nat.add_assoc]; exact hcell i j _ _ he hu⟩
section
variable {D : DvP} {a : Nat → Addr} {w : World}
set_option maxRecDepth 100000 in
set_option maxHeartbeats 4000000 in
theorem segsPower_law (hD : DvSpec (three a) D) (hE : Errs w a) (n : Int) (v : Value) (ks : List LifeS) (hk : LivesS w w.heap.size v ks) : Calls Tryd.prog 4 #[.int .i64 n, v] w fun en w' => en = .returned (.bool true) ∧ Below w.heap.size w w' := by
  have CA := Lib.hid (salive_any hD hE)
  have HAf := Lib.hid hk.2
  obtain ⟨A, c, rfl, _, hcell⟩ := hk.form
  have HC := Lib.hid (fun i hi (W : World) (hb : Below w.heap.size w W) => show ∃ b o, A = some ⟨b, o, none⟩ ∧ W.cell? ⟨b, o + i * 10, none⟩ = some (.int .i64 (ks[i]).act.len) ∧ W.cell? ⟨b, o + i * 10 + 1, none⟩ = some (.int .i64 (ks[i]).act.n) ∧ W.cell? ⟨b, o + i * 10 + 2, none⟩ = some (.int .u8 ((ks[i]).act.byte.toNat : Int)) ∧ W.cell? ⟨b, o + i * 10 + 3, none⟩ = some (.bool (ks[i]).act.drops) ∧ W.cell? ⟨b, o + i * 10 + 4, none⟩ = some (.bool (ks[i]).act.opens) ∧ W.cell? ⟨b, o + i * 10 + 5, none⟩ = some (.bool (ks[i]).breaks) ∧ W.cell? ⟨b, o + i * 10 + 6, none⟩ = some (.int .i64 (ks[i]).after) ∧ W.cell? ⟨b, o + i * 10 + 7, none⟩ = some (.int .u64 (ks[i]).kept) ∧ W.cell? ⟨b, o + i * 10 + 8, none⟩ = some (.int .i64 (ks[i]).torn) ∧ W.cell? ⟨b, o + i * 10 + 9, none⟩ = some (.int .i64 (ks[i]).cut) from by
    obtain ⟨b, o, e, hlt, hc⟩ := hcell i hi
    have hcc := below_cells hb
    have hat : ∀ j u, (ks[i]).cells.toList[j]? = some u → W.cell? ⟨b, o + i * 10 + j, none⟩ = some u := fun j u hu => (hcc _ _ hlt).trans (hc j u hu)
    exact ⟨b, o, e, hat 0 _ rfl, hat 1 _ rfl, hat 2 _ rfl, hat 3 _ rfl, hat 4 _ rfl, hat 5 _ rfl, hat 6 _ rfl, hat 7 _ rfl, hat 8 _ rfl, hat 9 _ rfl⟩)
  clear hk hcell
  by_cases h1 : 40 < ks.length
  · have q1 : decide ((40 : Int) < (ks.length : Int)) = true := decide_eq_true (by omega)
    clear h1
    go_enter Tryd.func4, Tryd.ntmps4
    go_wp2_with fail
    refine CA.out.mono ?_
    rintro en w1 ⟨rfl, hb⟩
    have HB := Lib.hid hb
    clear hb
    go_wp2_with fail
    go_ret
    exact ⟨rfl, HB.out⟩
  have q1 : decide ((40 : Int) < (ks.length : Int)) = false := decide_eq_false (by omega)
  obtain ⟨L, hL⟩ : ∃ L, ks.length = L := ⟨_, rfl⟩
  have hLe : L ≤ 40 := by omega
  rw [hL] at q1 ⊢
  have HL := Lib.hid hL
  clear h1 hL
  go_enter Tryd.func4, Tryd.ntmps4
  go_wp2_with fail
  refine CA.out.mono ?_
  rintro en w1 ⟨rfl, hb1⟩
  have CB := Lib.hid (begin_any (w := w) hD w1 hb1 n)
  clear hb1 CA
  go_wp2_with fail
  refine CB.out.mono ?_
  rintro en w2 ⟨k, dev, p, q, hk1, hk2, rfl, h2⟩
  obtain ⟨m0, hm0⟩ : ∃ m0 : StoD, m0 = ⟨k, []⟩ := ⟨_, rfl⟩
  rw [← hm0] at h2
  have hN0 : NumLe 0 m0 := by rw [hm0]; intro g hg; cases hg
  obtain ⟨S, hS⟩ : ∃ S, 64 * k + 5 = S := ⟨_, rfl⟩
  rw [hS] at h2
  have HS := Lib.hid (show 64 ≤ S ∧ S ≤ 330 by omega)
  have H2 := Lib.hid h2
  have HN0 := Lib.hid hN0
  clear hm0 hS hk1 hk2 h2 CB hN0
  go_wp2_with fail
  go_loopw [30, 6, 7] (fun i pp qq wr => ∃ (k p' q' : Nat) (m : StoD), i = .int .i64 (k : Int) ∧ pp = .pointer (some ⟨p', 0, none⟩) ∧ qq = .pointer (some ⟨q', 0, none⟩) ∧ k ≤ L ∧ Hid (NumLe k m) ∧ Hid (PS D w (fun _ _ => False) p' dev q' S m m wr)) (fun i _ _ _ => L - (intOf i).toNat)
  case atStart => exact ⟨0, p, q, m0, rfl, rfl, rfl, Nat.zero_le _, HN0, H2⟩
  case round =>
    obtain ⟨k, p', q', m, rfl, rfl, rfl, hk, hN, hPS⟩ := hrel
    by_cases hlt : k < L
    · have ql : decide ((k : Int) < (L : Int)) = true := decide_eq_true (by omega)
      have hkl : k < ks.length := by rw [HL.out]; exact hlt
      have hca := HC.out k hkl wr hPS.out.since
      have haf := HAf.out _ (List.getElem_mem hkl)
      obtain ⟨l, hl⟩ : ∃ l : LifeS, l = ks[k] := ⟨_, rfl⟩
      rw [← hl] at hca haf
      obtain ⟨⟨len, kn, byte, drops, opens⟩, breaks, after, kept, torn, cut⟩ := l
      obtain ⟨b, o, rfl, c0, c1, c2, c3, c4, c5, c6, c7, c8, c9⟩ := hca
      simp only at c0 c1 c2 c3 c4 c5 c6 c7 c8 c9 haf
      have h1 := hPS.out.more hD (.cells #[.int .i64 len, .int .i64 kn, .int .u8 (byte.toNat : Int), .bool drops, .bool opens, .bool breaks, .int .i64 after, .int .u64 kept, .int .i64 torn, .int .i64 cut] 43)
      obtain ⟨W1, hW1⟩ : ∃ W1, wr.alloc (.cells #[.int .i64 len, .int .i64 kn, .int .u8 (byte.toNat : Int), .bool drops, .bool opens, .bool breaks, .int .i64 after, .int .u64 kept, .int .i64 torn, .int .i64 cut] 43) = W1 := ⟨_, rfl⟩
      have HW1 := Lib.hid hW1
      rw [hW1] at h1
      have HP1 := Lib.hid (h1.fewer (bx' := fun _ _ => False) (fun _ _ h => h.elim))
      have bk : (k : Int) ≤ 40 := by omega
      have HK := Lib.hid (show k + 1 ≤ L ∧ L ≤ 40 by omega)
      cases breaks with
      | true =>
        have CBr := Lib.hid (broken_any hD hE HS.out.1 (by have := HS.out; omega) hN.out (by omega) HP1.out ⟨⟨len, kn, byte, drops, opens⟩, true, after, kept, torn, cut⟩ haf)
        clear h1 hW1 hl haf HP1
        go_wp2_with fail
        rw [HW1.out]
        refine CBr.out.mono ?_
        rintro en w4 ⟨p2, q2, m2, rfl, hn2, h4⟩
        have HN2 := Lib.hid hn2
        have H4 := Lib.hid h4
        clear hn2 h4 CBr c0 c1 c2 c3 c4 c5 c6 c7 c8 c9
        go_wp2_with fail
        clear ql
        go_roundw
        case rel => exact ⟨k + 1, p2, q2, m2, by go_num, rfl, rfl, by omega, HN2, H4⟩
        case measure => simp [intOf]; omega
      | false =>
        have CDo := Lib.hid (do_any hD hE HS.out.1 (by have := HS.out; omega) hN.out (by omega) HP1.out ⟨len, kn, byte, drops, opens⟩)
        have hn2 : NumLe (k + 1) (actM m ⟨len, kn, byte, drops, opens⟩) := act_num hN.out _
        obtain ⟨m2, hm2⟩ : ∃ m2, actM m ⟨len, kn, byte, drops, opens⟩ = m2 := ⟨_, rfl⟩
        rw [hm2] at CDo hn2
        have HN2 := Lib.hid hn2
        have CS := Lib.hid (fun (X : World) (pp : Nat) (hX : PS D w (fun _ _ => False) pp dev q' S m2 m2 X) => by
          have := hX.same hD (by have := HS.out; omega) hX.wf.1 (by have := hX.wf.2; have := HS.out; omega) HN2.out (by omega)
          rwa [same_refl hX.wf.1] at this)
        clear h1 hW1 hl haf HP1 hm2 hn2
        go_wp2_with fail
        rw [HW1.out]
        refine CDo.out.mono ?_
        rintro en w4 ⟨p2, rfl, h4⟩
        have CS4 := Lib.hid (CS.out w4 p2 h4)
        clear h4 CDo CS c0 c1 c2 c3 c4 c5 c6 c7 c8 c9
        go_wp2_with fail
        refine CS4.out.mono ?_
        rintro en w5 ⟨rfl, h5⟩
        have H5 := Lib.hid h5
        clear h5 CS4
        go_wp2_with fail
        clear ql
        go_roundw
        case rel => exact ⟨k + 1, p2, q', m2, by go_num, rfl, rfl, by omega, HN2, H5⟩
        case measure => simp [intOf]; omega
    · have hkT : k = L := by omega
      subst hkT
      have ql : decide ((k : Int) < (k : Int)) = false := decide_eq_false (by omega)
      have HB := Lib.hid hPS.out.since
      clear hPS hN
      go_wp2_with fail
      go_ret
      exact ⟨by simp, HB.out⟩
end
end Go.Proofs.YtidbmagpnaingaaDoor
