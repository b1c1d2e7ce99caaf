/- Package token's sequencer in memory: one block of sixty-seven cells: an epoch, the next address, of each stream four addresses and how many of them count. -/
import Derived.Test.YtfgpjelnijeoaaaDoorTkC
import Derived.Laws.CopyOwn
import Derived.Deep.RegionLaw
namespace Go.Proofs.YtfgpjelnijeoaaaDoor
open Go Go.RowKit Tide

/-- Five cells from o on: the newest of a stream for which l was told. -/
def RowC (cs : List Value) (o : Nat) (l : List Int) : Prop :=
  ∃ z0 z1 z2 z3 : Int, cs[o]? = some (.int .i64 z0) ∧ cs[o + 1]? = some (.int .i64 z1) ∧ cs[o + 2]? = some (.int .i64 z2) ∧ cs[o + 3]? = some (.int .i64 z3) ∧ cs[o + 4]? = some (.int .i64 ((min l.length 4 : Nat) : Int)) ∧ [z0, z1, z2, z3].take l.length = l.take 4
structure TokC (cs : List Value) (s : SeqD) : Prop where
  n : cs.length = 67
  na : s.all.length = 13
  ep : cs[0]? = some (.int .i64 s.ep)
  nx : cs[1]? = some (.int .i64 (s.nx : Int))
  row : ∀ (x : Nat) (l : List Int), s.all[x]? = some l → RowC cs (2 + x * 5) l
/-- The cells of block g. -/
def TokB (w : World) (g : Nat) (cs : List Value) : Prop := w.heap[g]? = some (.cells cs.toArray 66)
/-- Block g is a sequencer that answers as s. -/
def TokIs (w : World) (g : Nat) (s : SeqD) : Prop := ∃ cs, TokB w g cs ∧ TokC cs s

/-- Nothing but five cells from o on differs. -/
def Off5 (cs cs' : List Value) (o : Nat) : Prop := cs'.length = cs.length ∧ ∀ j, j < o ∨ o + 5 ≤ j → cs'[j]? = cs[j]?
theorem Off5.refl (cs : List Value) (o : Nat) : Off5 cs cs o := ⟨rfl, fun _ _ => rfl⟩
theorem Off5.trans {a b c : List Value} {o : Nat} (h : Off5 a b o) (k : Off5 b c o) : Off5 a c o := ⟨k.1.trans h.1, fun j hj => (k.2 j hj).trans (h.2 j hj)⟩
theorem RowC.off {cs cs' : List Value} {o p : Nat} {l : List Int} (h : RowC cs p l) (hk : Off5 cs cs' o) (hd : p + 5 ≤ o ∨ o + 5 ≤ p) : RowC cs' p l := by
  obtain ⟨z0, z1, z2, z3, h0, h1, h2, h3, h4, h5⟩ := h
  exact ⟨z0, z1, z2, z3, by rw [hk.2 _ (by omega)]; exact h0, by rw [hk.2 _ (by omega)]; exact h1, by rw [hk.2 _ (by omega)]; exact h2, by rw [hk.2 _ (by omega)]; exact h3, by rw [hk.2 _ (by omega)]; exact h4, h5⟩
theorem TokC.setRow {cs cs' : List Value} {s : SeqD} (h : TokC cs s) {x : Nat} {l : List Int} (hk : Off5 cs cs' (2 + x * 5)) (hr : RowC cs' (2 + x * 5) l) : TokC cs' { s with all := s.all.set x l } where
  n := hk.1.trans h.n
  na := by simp [h.na]
  ep := by rw [hk.2 0 (by omega)]; exact h.ep
  nx := by rw [hk.2 1 (by omega)]; exact h.nx
  row := fun y m hm => by
    rw [List.getElem?_set] at hm
    by_cases e : x = y
    · subst e
      simp only [if_true] at hm
      split at hm
      · injection hm with hm
        subst hm
        exact hr
      · cases hm
    · simp only [e, if_false] at hm
      exact (h.row y m hm).off hk (by omega)
theorem TokC.setNext {cs : List Value} {s : SeqD} (h : TokC cs s) (n : Nat) : TokC (cs.set 1 (.int .i64 (n : Int))) { s with nx := n } where
  n := by simp [h.n]
  na := h.na
  ep := by rw [List.getElem?_set]; simpa using h.ep
  nx := by rw [List.getElem?_set]; simp [h.n]
  row := fun y m hm => by
    obtain ⟨z0, z1, z2, z3, h0, h1, h2, h3, h4, h5⟩ := h.row y m hm
    refine ⟨z0, z1, z2, z3, ?_, ?_, ?_, ?_, ?_, h5⟩ <;> rw [List.getElem?_set, if_neg (by omega)] <;> assumption
/-- An address ahead of the others. -/
theorem RowC.add {cs' : List Value} {o : Nat} {l : List Int} {a z0 z1 z2 z3 : Int} (h : [z0, z1, z2, z3].take l.length = l.take 4) (h0 : cs'[o]? = some (.int .i64 a)) (h1 : cs'[o + 1]? = some (.int .i64 z0)) (h2 : cs'[o + 2]? = some (.int .i64 z1)) (h3 : cs'[o + 3]? = some (.int .i64 z2))
    (h4 : cs'[o + 4]? = some (.int .i64 ((min (l.length + 1) 4 : Nat) : Int))) : RowC cs' o (a :: l) := by
  refine ⟨a, z0, z1, z2, h0, h1, h2, h3, by rw [List.length_cons]; exact h4, ?_⟩
  have e : [z0, z1, z2] = [z0, z1, z2, z3].take 3 := rfl
  rw [List.length_cons, List.take_succ_cons, List.take_succ_cons, e, List.take_take, Nat.min_comm, ← List.take_take, h, List.take_take]; rfl
/-- Addresses that there is room for. -/
theorem RowC.put {cs' : List Value} {o : Nat} {l : List Int} {z0 z1 z2 z3 : Int} (hl : l.length ≤ 4) (hz : [z0, z1, z2, z3].take l.length = l) (h0 : cs'[o]? = some (.int .i64 z0)) (h1 : cs'[o + 1]? = some (.int .i64 z1)) (h2 : cs'[o + 2]? = some (.int .i64 z2)) (h3 : cs'[o + 3]? = some (.int .i64 z3))
    (h4 : cs'[o + 4]? = some (.int .i64 (l.length : Int))) : RowC cs' o l :=
  ⟨z0, z1, z2, z3, h0, h1, h2, h3, by rw [Nat.min_eq_left hl]; exact h4, by rw [hz, List.take_of_length_le hl]⟩
theorem RowC.cells {cs : List Value} {o : Nat} {l : List Int} (h : RowC cs o l) : ∀ (j : Nat) (u : Value), (int64s (l.take 4))[j]? = some u → cs[o + j]? = some u := by
  obtain ⟨z0, z1, z2, z3, h0, h1, h2, h3, _, h5⟩ := h
  intro j u hu
  rw [← h5] at hu
  unfold int64s at hu
  rw [List.getElem?_map] at hu
  obtain ⟨z, hz, rfl⟩ := Option.map_eq_some_iff.1 hu
  rw [List.getElem?_take] at hz
  split at hz
  · match j, hz with
    | 0, hz => injection hz with hz; subst hz; exact h0
    | 1, hz => injection hz with hz; subst hz; exact h1
    | 2, hz => injection hz with hz; subst hz; exact h2
    | 3, hz => injection hz with hz; subst hz; exact h3
    | j + 4, hz => simp at hz
  · cases hz
theorem TokB.row {w : World} {g o : Nat} {cs : List Value} {l : List Int} (hb : TokB w g cs) (hr : RowC cs o l) : Row w w.heap.size (.slice (some ⟨g, o, none⟩) (min l.length 4) 4) (int64s (l.take 4)) := by
  have e : (int64s (l.take 4)).length = min l.length 4 := by rw [int64s_length, List.length_take, Nat.min_comm]
  refine ⟨by rw [e]; omega, _, 4, by rw [e], by rw [e]; omega, by omega, fun _ => ⟨g, o, rfl, (Array.getElem?_eq_some_iff.1 hb).1, fun j u hu => ?_⟩⟩
  rw [cell_of_row _ _ (o + j) _ _ _ hb]
  simpa using hr.cells j u hu
section
variable {w w' : World} {F : Nat → Prop} {g : Nat} {cs : List Value} {s : SeqD}
theorem TokB.lt (h : TokB w g cs) : g < w.heap.size := (Array.getElem?_eq_some_iff.1 h).1
theorem TokB.kept (h : TokB w g cs) (hk : Kept F w w') (hF : ¬ F g) : TokB w' g cs := hk.heap h hF
theorem TokB.cell (h : TokB w g cs) {i : Nat} {v : Value} (hi : cs[i]? = some v) : w.cell? ⟨g, i, none⟩ = some v := by
  rw [cell_of_row _ _ i _ _ _ h]
  simpa using hi
theorem TokB.free (h : TokB w g cs) (i : Nat) : w.frozen? ⟨g, i, none⟩ = false := by unfold TokB at h; simp [World.frozen?, h]
theorem TokB.set (h : TokB w g cs) (i : Nat) (v : Value) : TokB (w.setCell ⟨g, i, none⟩ v) g (cs.set i v) := by
  unfold TokB at h ⊢
  rw [heap_setCell_same _ _ _ _ _ _ h]
  simp
theorem TokIs.kept (h : TokIs w g s) (hk : Kept F w w') (hF : ¬ F g) : TokIs w' g s := h.imp fun _ h => ⟨h.1.kept hk hF, h.2⟩
theorem TokIs.below (h : TokIs w g s) (hb : Below w.heap.size w w') : TokIs w' g s := h.kept (Kept.of_below (F := fun _ => False) hb) (fun h => h)
theorem TokIs.lt (h : TokIs w g s) : g < w.heap.size := by
  obtain ⟨cs, h, _⟩ := h
  exact h.lt
theorem TokIs.next (h : TokIs w g s) (n : Nat) (z : Int) (hz : z = (n : Int)) : TokIs (w.setCell ⟨g, 1, none⟩ (.int .i64 z)) g { s with nx := n } := by
  obtain ⟨cs, hb, hc⟩ := h
  subst hz
  exact ⟨_, hb.set 1 _, hc.setNext n⟩
theorem Kept.one (w : World) (g i : Nat) (v : Value) : Kept (fun k => k = g) w (w.setCell ⟨g, i, none⟩ v) := Kept.setCell (F := fun k => k = g) (Kept.refl _ w) (p := ⟨g, i, none⟩) (.inl rfl) v
end
theorem run_copy_blk {P : Program} (w : World) (dT sT ty elem : TypeId) (hu : P.underlying dT = some (.slice elem)) (hsz : (P.info? elem).map (·.size) = some 1) (sp : Option Addr) (dLen dCap sLen sCap g off : Nat)
    (cur : List Value) (t : TypeId) (hg : w.heap[g]? = some (.cells cur.toArray t (0, 0))) (cs : List Value) (hn : cs.length = Nat.min sLen dLen)
    (hpos : 0 < cs.length → ∃ ad, sp = some ad ∧ ∀ j v, cs[j]? = some v → w.cell? (ad.add j) = some v) (hfit : off + cs.length ≤ cur.length) (h1 : ∀ v ∈ cs, v.oneCell' = true) :
    ∃ w', (Builtin.copy_ #[dT, sT] ty #[.slice (some ⟨g, off, none⟩) dLen dCap, .slice sp sLen sCap]).run P w = .ok (goInt cs.length) w' ∧ w'.heap[g]? = some (.cells (splice cur off cs).toArray t (0, 0)) ∧ Kept (fun k => k = g) w w' := by
  by_cases h0 : cs.length = 0
  · obtain rfl : cs = [] := List.eq_nil_of_length_eq_zero h0
    exact ⟨w, run_copy_none w dT sT ty elem _ _ dLen dCap sLen sCap hu hsz (by simpa using hn.symm), by simpa [splice] using hg, Kept.refl _ w⟩
  · obtain ⟨ad, rfl, hsrc⟩ := hpos (by omega)
    exact ⟨_, run_copy_row P w dT sT ty elem g off dLen dCap ad sLen sCap cur.toArray t cs hu hsz hg hn hsrc (by simpa using hfit) h1, by simpa [splice] using setRow_heap w g _ _ t _ hg, rfl, rfl, rfl, by simp [World.setRow], fun k _ hk => setRow_other w g k _ (fun e => hk e)⟩
/-- copy within a block that is known whole. -/
theorem wpList_copy_blk {P : Program} {w : World} {ops : Array Oper} {rest : List Oper} {o : Oper} {a : Act} {Q : Exit → Act → World → Prop} (hgd : o.guard = none) (d s : Operand) (dT sT : TypeId)
    (ho : o.op = .call { callee := .builtin .copy, args := #[d, s], argTypes := #[dT, sT] }) (elem : TypeId) (hu : P.underlying dT = some (.slice elem)) (hsz : (P.info? elem).map (·.size) = some 1)
    (sp : Option Addr) (dLen dCap sLen sCap g off : Nat) (hd : a.eval d = .slice (some ⟨g, off, none⟩) dLen dCap) (hs : a.eval s = .slice sp sLen sCap)
    (cur : List Value) (t : TypeId) (hg : w.heap[g]? = some (.cells cur.toArray t (0, 0))) (cs : List Value) (hn : cs.length = Nat.min sLen dLen)
    (hpos : 0 < cs.length → ∃ ad, sp = some ad ∧ ∀ j v, cs[j]? = some v → w.cell? (ad.add j) = some v)
    (hfit : off + cs.length ≤ cur.length) (h1 : ∀ v ∈ cs, v.oneCell' = true)
    (h : ∀ w', w'.heap[g]? = some (.cells (splice cur off cs).toArray t (0, 0)) → Kept (fun k => k = g) w w' → wpList P ops Q rest (a.put o.dst (goInt cs.length)) w') :
    wpList P ops Q (o :: rest) a w := by
  by_cases h0 : cs.length = 0
  · obtain rfl : cs = [] := List.eq_nil_of_length_eq_zero h0
    refine wpList_copy_nothing hgd d s dT sT ho elem hu hsz _ sp dLen dCap sLen sCap hd hs (by simpa using hn.symm) ?_
    exact h w (by simpa [splice] using hg) (Kept.refl _ w)
  · obtain ⟨ad, rfl, hsrc⟩ := hpos (by omega)
    refine wpList_copy_own hgd d s dT sT ho elem hu hsz g off dLen dCap ad sLen sCap hd hs cur.toArray t hg cs hn hsrc (by simpa using hfit) h1 ?_
    refine h _ (by simpa [splice] using setRow_heap w g _ _ t _ hg) ⟨rfl, rfl, rfl, by simp [World.setRow], fun k _ hk => setRow_other w g k _ (fun e => hk e)⟩
theorem step_copy_blk {P : Program} {ops : Array Oper} {o : Oper} {a : Act} {w : World} {K : Act → World → Prop} {Q : Exit → Act → World → Prop} {E : Prop} (hgd : o.guard = none) (d s : Operand) (dT sT : TypeId)
    (ho : o.op = .call { callee := .builtin .copy, args := #[d, s], argTypes := #[dT, sT] }) (elem : TypeId) (hu : P.underlying dT = some (.slice elem)) (hsz : (P.info? elem).map (·.size) = some 1)
    (sp : Option Addr) (dLen dCap sLen sCap g off : Nat) (hd : a.eval d = .slice (some ⟨g, off, none⟩) dLen dCap) (hs : a.eval s = .slice sp sLen sCap)
    (cur : List Value) (t : TypeId) (hg : w.heap[g]? = some (.cells cur.toArray t (0, 0))) (cs : List Value) (hn : cs.length = Nat.min sLen dLen)
    (hpos : 0 < cs.length → ∃ ad, sp = some ad ∧ ∀ j v, cs[j]? = some v → w.cell? (ad.add j) = some v)
    (hfit : off + cs.length ≤ cur.length) (h1 : ∀ v ∈ cs, v.oneCell' = true)
    (h : ∀ w', w'.heap[g]? = some (.cells (splice cur off cs).toArray t (0, 0)) → Kept (fun k => k = g) w w' → K (a.put o.dst (goInt cs.length)) w') :
    if Region.wanted o (yielded ops a.tmps) = true then Oper.wp P o a w K Q else E := by
  have hw : Region.wanted o (yielded ops a.tmps) = true := by simp [Region.wanted, hgd]
  rw [if_pos hw]
  by_cases h0 : cs.length = 0
  · obtain rfl : cs = [] := List.eq_nil_of_length_eq_zero h0
    have hrun := run_copy_none (P := P) w dT sT o.type elem (some ⟨g, off, none⟩) sp dLen dCap sLen sCap hu hsz (by simpa using hn.symm)
    unfold Oper.wp
    simp [execOp, ho, resolve, invoke, builtin, hd, hs, hrun, Result.andThen]
    exact h w (by simpa [splice] using hg) (Kept.refl _ w)
  · obtain ⟨ad, rfl, hsrc⟩ := hpos (by omega)
    have hrun := run_copy_row (P := P) w dT sT o.type elem g off dLen dCap ad sLen sCap cur.toArray t cs hu hsz hg hn hsrc (by simpa using hfit) h1
    unfold Oper.wp
    simp [execOp, ho, resolve, invoke, builtin, hd, hs, hrun, Result.andThen]
    exact h _ (by simpa [splice] using setRow_heap w g _ _ t _ hg) ⟨rfl, rfl, rfl, by simp [World.setRow], fun k _ hk => setRow_other w g k _ (fun e => hk e)⟩
theorem splice_in {cs xs : List Value} {off j : Nat} (h : j < xs.length) (hf : off + xs.length ≤ cs.length) : (splice cs off xs)[off + j]? = xs[j]? := by
  have hl : (cs.take off).length = off := by rw [List.length_take]; omega
  unfold splice
  rw [List.getElem?_append_right (by omega), hl, Nat.add_sub_cancel_left, List.getElem?_append_left h]
theorem splice_out {cs xs : List Value} {off j : Nat} (h : j < off ∨ off + xs.length ≤ j) (hf : off + xs.length ≤ cs.length) : (splice cs off xs)[j]? = cs[j]? := by
  have hl : (cs.take off).length = off := by rw [List.length_take]; omega
  unfold splice
  rcases h with h | h
  · rw [List.getElem?_append_left (by omega), List.getElem?_take_of_lt h]
  · rw [List.getElem?_append_right (by omega), hl, List.getElem?_append_right (by omega), List.getElem?_drop]
    congr 1
    omega
end Go.Proofs.YtfgpjelnijeoaaaDoor
