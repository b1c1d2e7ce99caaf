/- The document's own sequencer in memory: an epoch, the next address, a row for each of thirteen streams. Newest. Not tied to package token's code. -/
import Derived.Test.YtfgpjelnijeoaaaDoorTkB
import Derived.Test.YtfgpjelnijeoaaaDoorLaw
namespace Go.Proofs.YtfgpjelnijeoaaaDoor
open Go Go.RowKit Tide

/-- The document's sequencer: of each stream all addresses, the newest one first. -/
structure SeqD where
  ep : Int
  nx : Nat
  all : List (List Int)
def seqC (ep : Int) (nx : Nat) (vs : List Value) : Obj := .cells (.int .i64 ep :: .int .i64 nx :: vs).toArray 70
/-- It lies at block g, its rows are vs, its blocks are among R. -/
structure SeqR (w : World) (R : Nat → Prop) (g : Nat) (s : SeqD) (vs : List Value) : Prop where
  nv : vs.length = 13
  na : s.all.length = 13
  at_ : w.heap[g]? = some (seqC s.ep s.nx vs)
  inR : R g
  low : ∀ k, R k → k < w.heap.size
  rows : ∀ (i : Nat) (v : Value) (l : List Int), vs[i]? = some v → s.all[i]? = some l → Own w 0 v l
  apart : ∀ (i : Nat) (v : Value) (k : Nat), vs[i]? = some v → v.ownBlock = some k → k ≠ g ∧ R k
def SeqIs (w : World) (R : Nat → Prop) (g : Nat) (s : SeqD) : Prop := ∃ vs, SeqR w R g s vs
section
variable {w w' : World} {R F : Nat → Prop} {g : Nat} {s : SeqD} {vs : List Value}
theorem SeqR.kept (h : SeqR w R g s vs) (hk : Kept F w w') (hF : ∀ k, R k → ¬ F k) : SeqR w' R g s vs :=
  ⟨h.nv, h.na, hk.heap h.at_ (hF _ h.inR), h.inR, fun k hR => Nat.lt_of_lt_of_le (h.low k hR) hk.size, fun i v l hv hl => hk.own (h.rows i v l hv hl) (fun k hb => hF k (h.apart i v k hv hb).2), h.apart⟩
theorem SeqR.below (h : SeqR w R g s vs) (hb : Below w.heap.size w w') : SeqR w' R g s vs := h.kept (Kept.of_below (F := fun _ => False) hb) (fun _ _ h => h)
theorem SeqIs.kept (h : SeqIs w R g s) (hk : Kept F w w') (hF : ∀ k, R k → ¬ F k) : SeqIs w' R g s := h.imp fun _ h => h.kept hk hF
theorem SeqIs.below (h : SeqIs w R g s) (hb : Below w.heap.size w w') : SeqIs w' R g s := h.imp fun _ h => h.below hb
theorem SeqR.cell (h : SeqR w R g s vs) {i : Nat} {v : Value} (hi : (Value.int .i64 s.ep :: .int .i64 s.nx :: vs)[i]? = some v) : w.cell? ⟨g, i, none⟩ = some v := by
  rw [cell_of_row _ _ i _ _ _ h.at_]
  simpa using hi
theorem SeqR.epoch (h : SeqR w R g s vs) : w.cell? ⟨g, 0, none⟩ = some (.int .i64 s.ep) := h.cell rfl
theorem SeqR.next (h : SeqR w R g s vs) : w.cell? ⟨g, 1, none⟩ = some (.int .i64 s.nx) := h.cell rfl
theorem SeqR.stream (h : SeqR w R g s vs) {x : Nat} (hx : x < 13) : ∃ v, vs[x]? = some v ∧ w.cell? ⟨g, 2 + x, none⟩ = some v ∧ Own w 0 v (s.all[x]'(by rw [h.na]; exact hx)) := by
  have hv : vs[x]? = some (vs[x]'(by rw [h.nv]; exact hx)) := List.getElem?_eq_getElem _
  refine ⟨_, hv, h.cell ?_, h.rows x _ _ hv (List.getElem?_eq_getElem _)⟩
  rw [Nat.add_comm]
  exact hv
theorem SeqR.free (h : SeqR w R g s vs) (i : Nat) : w.frozen? ⟨g, i, none⟩ = false := by simp [World.frozen?, h.at_, seqC]
theorem SeqR.setNext (h : SeqR w R g s vs) (n : Nat) : SeqR (w.setCell ⟨g, 1, none⟩ (.int .i64 n)) R g { s with nx := n } vs := by
  have hk : Kept (fun k => k = g) w (w.setCell ⟨g, 1, none⟩ (.int .i64 n)) := Kept.setCell (F := fun k => k = g) (Kept.refl _ w) (p := ⟨g, 1, none⟩) (.inl rfl) _
  refine ⟨h.nv, h.na, ?_, h.inR, fun k hR => Nat.lt_of_lt_of_le (h.low k hR) hk.size, fun i v l hv hl => hk.own (h.rows i v l hv hl) (fun k hb => (h.apart i v k hv hb).1), h.apart⟩
  have := h.at_
  unfold seqC at this ⊢
  rw [heap_setCell_same _ _ _ _ _ _ this]
  simp
theorem SeqR.setRow (h : SeqR w R g s vs) {x : Nat} {v : Value} {l : List Int} (ho : Own w 0 v l) (ha : v.ownBlock ≠ some g) :
    SeqR (w.setCell ⟨g, 2 + x, none⟩ v) (fun k => R k ∨ v.ownBlock = some k) g { s with all := s.all.set x l } (vs.set x v) := by
  have hk : Kept (fun k => k = g) w (w.setCell ⟨g, 2 + x, none⟩ v) := Kept.setCell (F := fun k => k = g) (Kept.refl _ w) (p := ⟨g, 2 + x, none⟩) (.inl rfl) _
  refine ⟨by simp [h.nv], by simp [h.na], ?_, .inl h.inR, fun k hR => ?_, fun i u m hu hm => ?_, fun i u k hu hb => ?_⟩
  · have := h.at_
    unfold seqC at this ⊢
    rw [heap_setCell_same _ _ _ _ _ _ this]
    simp only [List.setIfInBounds_toArray, show 2 + x = x + 2 from Nat.add_comm _ _, List.set_cons_succ]
  · refine Nat.lt_of_lt_of_le ?_ hk.size
    rcases hR with hR | hR
    · exact h.low k hR
    · exact (ho.lt k hR).2
  · rw [List.getElem?_set] at hu hm
    by_cases e : x = i
    · simp only [e, if_true] at hu hm
      split at hu <;> split at hm <;> simp_all
      subst hu hm
      exact hk.own ho (fun k hb e => ha (by rw [hb, e]))
    · simp only [e, if_false] at hu hm
      exact hk.own (h.rows i u m hu hm) (fun k hb => (h.apart i u k hu hb).1)
  · rw [List.getElem?_set] at hu
    by_cases e : x = i
    · simp only [e, if_true] at hu
      split at hu
      · injection hu with hu
        subst hu
        exact ⟨fun e => ha (by rw [hb, e]), .inr hb⟩
      · cases hu
    · simp only [e, if_false] at hu
      exact ⟨(h.apart i u k hu hb).1, .inl (h.apart i u k hu hb).2⟩
end

theorem newest13_any (s : SeqD) (x : Nat) (R : Nat → Prop) (g : Nat) (w : World) (hx : x < 13) (h : SeqIs w R g s) :
    Calls Tryd.prog 31 #[.pointer (some ⟨g, 0, none⟩), .int .i64 (x : Int)] w fun e w' => ∃ v', e = .returned v' ∧ Own w' w.heap.size v' ((s.all.getD x []).take 4) ∧ Below w.heap.size w w' := by
  obtain ⟨vs, h⟩ := h
  obtain ⟨v, _, hc, ho⟩ := h.stream hx
  have e : s.all.getD x [] = s.all[x]'(by rw [h.na]; exact hx) := by rw [List.getD_eq_getElem?_getD, List.getElem?_eq_getElem (by rw [h.na]; exact hx)]; rfl
  rw [e]
  have CN := Lib.hid (newest_any _ v w.heap.size w ho.row (Nat.le_refl _))
  have hg := h.low g h.inR
  have i1 : (x : Int) < 13 := by omega
  generalize (s.all[x]'(by rw [h.na]; exact hx)) = l at *
  clear h ho e
  go_enter Tryd.func31, Tryd.ntmps31
  go_wp2_with fail
  refine CN.out.mono ?_
  rintro en w1 ⟨v', rfl, ho, hb⟩
  have H1 := Lib.hid ho
  have H2 := Lib.hid hb
  clear ho hb CN
  go_wp2_with fail
  go_ret
  exact ⟨_, rfl, H1.out, H2.out⟩
end Go.Proofs.YtfgpjelnijeoaaaDoor
