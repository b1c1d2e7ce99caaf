/- A device behind a step: a write more is pending; a sector of the bytes with what is pending, or of the durable ones, is another. -/
import Derived.Test.YtcjneloelbgboaaDoorDkO
import Derived.RangeFuncBox
namespace Go.Proofs.YtcjneloelbgboaaDoor
open Go.RowKit Tide

theorem row_set {W : World} {p i : Nat} {cs : Array Value} {t : TypeId} {fr : Nat × Nat} (h : W.heap[p]? = some (.cells cs t fr)) (v : Value) : (W.setCell ⟨p, i, none⟩ v).heap[p]? = some (.cells (cs.setIfInBounds i v) t fr) := by
  obtain ⟨hlt, hk⟩ := Array.getElem?_eq_some_iff.1 h
  show (W.heap.modify p _)[p]? = _
  rw [Array.getElem?_eq_getElem (by rw [Array.size_modify]; exact hlt), Array.getElem_modify_self, hk]
  simp

section
variable {W W' : World} {F : Nat → Prop} {p : Nat} {img now : List UInt8} {ts : List Wr} {bd cd bn cn : Nat} {vp : Value}
/-- Its pending writes are others. -/
theorem DevB.repend (h : DevB W F p img now ts bd cd bn cn vp) {G : Nat → Prop} (hk : Kept G W W') (hG : ∀ k, F k → G k → vp.ownBlock = some k) {ts' : List Wr} {vp' : Value} {F' : Nat → Prop}
    (hF : ∀ k, F k → F' k) (hlt : ∀ k, F' k → k < W'.heap.size) (hpn : W'.ownsRow 0 56 2 vp' ts'.length (ts'.flatMap Wr.cells)) (hwr : ∀ t ∈ ts', W'.ownsRow 0 5 1 (sl t.g 64 t.cap) 64 (u8s t.b))
    (hf1 : ∀ k, vp'.ownBlock = some k → F' k) (hf2 : ∀ t ∈ ts', F' t.g) (hn1 : ∀ k, vp'.ownBlock = some k → k ≠ p ∧ k ≠ bd ∧ k ≠ bn) (hn2 : ∀ t ∈ ts', t.g ≠ p ∧ t.g ≠ bd ∧ t.g ≠ bn ∧ vp'.ownBlock ≠ some t.g) :
    DevB (W'.setCell ⟨p, 2, none⟩ vp') F' p img now ts' bd cd bn cn vp' := by
  have hK : Kept (fun k => k = p) W' (W'.setCell ⟨p, 2, none⟩ vp') := (Kept.refl (fun k => k = p) W').setCell (p := ⟨p, 2, none⟩) (.inl rfl) vp'
  have hp : ¬ G p := fun hg => (h.nep p (hG p h.fp.1 hg)).1 rfl
  have hd : ¬ G bd := fun hg => (h.nep bd (hG bd h.fp.2.1 hg)).2.1 rfl
  have hn : ¬ G bn := fun hg => (h.nep bn (hG bn h.fp.2.2.1 hg)).2.2 rfl
  have hblk := hk.heap h.block hp
  exact {
    block := row_set hblk vp'
    dur := hK.own (hk.own h.dur (fun k e => by cases e; exact hd)) (fun k e => by cases e; exact fun e => h.ne.1 e.symm)
    now := hK.own (hk.own h.now (fun k e => by cases e; exact hn)) (fun k e => by cases e; exact fun e => h.ne.2.1 e.symm)
    pend := hK.own hpn (fun k e => (hn1 k e).1)
    wr := fun t ht => hK.own (hwr t ht) (fun k e => by cases e; exact (hn2 t ht).1)
    fp := ⟨hF _ h.fp.1, hF _ h.fp.2.1, hF _ h.fp.2.2.1, hf1, hf2⟩
    lt := fun k hf => Nat.lt_of_lt_of_le (hlt k hf) hK.size
    ne := h.ne
    nep := hn1
    new := hn2 }
/-- A write more. -/
theorem DevB.snoc (h : DevB W F p img now ts bd cd bn cn vp) {W1 W9 : World} (hb : Below W.heap.size W W1) {g1 cap1 i : Nat} {b : List UInt8} (ho : W1.ownsRow W.heap.size 5 1 (sl g1 64 cap1) 64 (u8s b)) (hg : W1.grownBy W9 vp.ownBlock) {g cap : Nat}
    (hown : W9.ownsRow 0 56 2 (sl g (ts.length + 1) cap) (ts.length + 1) (ts.flatMap Wr.cells ++ [.int .i64 (i : Int), sl g1 64 cap1])) (hat : vp.ownBlock = some g ∨ g = W1.heap.size) :
    DevB (W9.setCell ⟨p, 2, none⟩ (sl g (ts.length + 1) cap)) (fun k => F k ∨ (W.heap.size ≤ k ∧ k < W9.heap.size)) p img now (ts ++ [⟨i, b, g1, cap1⟩]) bd cd bn cn (sl g (ts.length + 1) cap) ∧ Kept F W (W9.setCell ⟨p, 2, none⟩ (sl g (ts.length + 1) cap)) := by
  have hg1 := ho.lt g1 rfl
  have hg2 := (hown.lt g rfl).2
  have hpl := h.plt
  have hdl := h.lt _ h.fp.2.1
  have hnl := h.lt _ h.fp.2.2.1
  have hvl : ∀ k, vp.ownBlock = some k → k < W.heap.size := fun k e => h.lt k (h.fp.2.2.2.1 k e)
  have hz1 := hb.size
  have hz9 := hg.size
  have hK1 : Kept (fun k => vp.ownBlock = some k) W1 W9 := (Kept.refl _ _).grown hg (fun k e => .inl e)
  have hK : Kept (fun k => vp.ownBlock = some k) W W9 := (Kept.of_below hb).trans hK1 (fun k e => .inl e)
  have hgn : g ≠ p ∧ g ≠ bd ∧ g ≠ bn := by
    rcases hat with e | e
    · exact h.nep g e
    · refine ⟨?_, ?_, ?_⟩ <;> omega
  refine ⟨h.repend hK (fun _ _ e => e) (fun k hf => .inl hf) ?_ ?_ ?_ ?_ ?_ ?_ ?_, ?_⟩
  · rintro k (hf | hf)
    · have := h.lt k hf
      omega
    · exact hf.2
  · rw [List.length_append, List.flatMap_append]
    exact hown
  · intro t ht
    rcases List.mem_append.1 ht with ht | ht
    · exact hK.own (h.wr t ht) (fun k e => by cases e; exact (h.new t ht).2.2.2)
    · simp only [List.mem_singleton] at ht
      subst ht
      exact hK1.own (own_later ho (Nat.zero_le _)) (fun k e => by
        have e : g1 = k := by simpa [Value.ownBlock] using e
        subst e
        intro e
        have := hvl _ e
        omega)
  · intro k e
    have e : g = k := by simpa [Value.ownBlock] using e
    subst e
    rcases hat with e | e
    · exact .inl (h.fp.2.2.2.1 _ e)
    · exact .inr ⟨by omega, hg2⟩
  · intro t ht
    rcases List.mem_append.1 ht with ht | ht
    · exact .inl (h.fp.2.2.2.2 t ht)
    · simp only [List.mem_singleton] at ht
      subst ht
      exact .inr ⟨hg1.1, Nat.lt_of_lt_of_le hg1.2 hz9⟩
  · intro k e
    cases e
    exact hgn
  · intro t ht
    rcases List.mem_append.1 ht with ht | ht
    · obtain ⟨n1, n2, n3, n4⟩ := h.new t ht
      refine ⟨n1, n2, n3, fun e => ?_⟩
      have e : g = t.g := by simpa [Value.ownBlock] using e
      rcases hat with e2 | e2
      · exact n4 (by rw [← e]; exact e2)
      · have := h.lt _ (h.fp.2.2.2.2 t ht)
        omega
    · simp only [List.mem_singleton] at ht
      subst ht
      refine ⟨by show g1 ≠ p; omega, by show g1 ≠ bd; omega, by show g1 ≠ bn; omega, fun e => ?_⟩
      have e : g = g1 := by simpa [Value.ownBlock] using e
      rcases hat with e2 | e2
      · have := hvl _ e2
        omega
      · omega
  · exact (hK.mono (fun k _ e => h.fp.2.2.2.1 k e)).setCell (.inl h.fp.1) _
/-- A sector of what is read is another. -/
theorem DevB.renow (h : DevB W F p img now ts bd cd bn cn vp) {now' : List UInt8} (ho : W'.ownsRow 0 5 1 (sl bn img.length cn) img.length (u8s now')) (hg : W.grownBy W' (some bn)) : DevB W' F p img now' ts bd cd bn cn vp ∧ Kept F W W' := by
  have hK : Kept (fun k => k = bn) W W' := (Kept.refl _ _).grown hg (fun k e => .inl (by injection e with e; exact e.symm))
  exact ⟨{
    block := hK.heap h.block h.ne.2.1
    dur := hK.own h.dur (fun k e => by cases e; exact h.ne.2.2)
    now := ho
    pend := hK.own h.pend (fun k e => (h.nep k e).2.2)
    wr := fun t ht => hK.own (h.wr t ht) (fun k e => by cases e; exact (h.new t ht).2.2.1)
    fp := h.fp
    lt := fun k hf => Nat.lt_of_lt_of_le (h.lt k hf) hK.size
    ne := h.ne
    nep := h.nep
    new := h.new }, hK.mono (fun k _ e => by subst e; exact h.fp.2.2.1)⟩
/-- The durable bytes are others. -/
theorem DevB.redur (h : DevB W F p img now ts bd cd bn cn vp) {img' : List UInt8} (hl : img'.length = img.length) (ho : W'.ownsRow 0 5 1 (sl bd img.length cd) img.length (u8s img')) (hK : Kept (fun k => k = bd) W W') : DevB W' F p img' now ts bd cd bn cn vp := by
  exact {
    block := by rw [hl]; exact hK.heap h.block h.ne.1
    dur := by rw [hl]; exact ho
    now := by rw [hl]; exact hK.own h.now (fun k e => by cases e; exact fun e => h.ne.2.2 e.symm)
    pend := hK.own h.pend (fun k e => (h.nep k e).2.1)
    wr := fun t ht => hK.own (h.wr t ht) (fun k e => by cases e; exact (h.new t ht).2.1)
    fp := h.fp
    lt := fun k hf => Nat.lt_of_lt_of_le (h.lt k hf) hK.size
    ne := h.ne
    nep := h.nep
    new := h.new }
/-- Nothing is pending. -/
theorem DevB.clear (h : DevB W F p img now ts bd cd bn cn vp) : DevB (W.setCell ⟨p, 2, none⟩ (.slice none 0 0)) F p img now [] bd cd bn cn (.slice none 0 0) :=
  h.repend (G := fun _ => False) (Kept.refl _ _) (fun _ _ h => h.elim) (fun _ h => h) h.lt ⟨rfl, .inl ⟨rfl, rfl⟩⟩ (fun t ht => by cases ht) (fun k e => by cases e) (fun t ht => by cases ht) (fun k e => by cases e) (fun t ht => by cases ht)
end
end Go.Proofs.YtcjneloelbgboaaDoor
