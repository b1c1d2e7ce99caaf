/- A row of backs of the call's own, made at once, and filled one by one. Not tied to package token's code. -/
import Derived.Test.YtfgpjelnijeoaaaDoorTkD
namespace Go.Proofs.YtfgpjelnijeoaaaDoor
open Go Go.RowKit Tide

theorem takeL_len (nx : Nat) (all : List (List Int)) (l : List Int) : (takeL nx all l).1.length = l.length := by
  have : ∀ (l : List Int) (p : List (Int × List Int) × List (List Int)), (l.foldl (stepT nx) p).1.length = p.1.length + l.length := by
    intro l
    induction l with
    | nil => intro p; rfl
    | cons x l ih => intro p; rw [List.foldl_cons, ih]; simp [stepT]; omega
  simpa [takeL] using this l ([], all)
theorem madeB (n : Nat) (h : n ≤ 3) : (madeCells (Value.agg #[.int .i64 0, .slice none 0 0]).cells (n * 2)).toList = (List.replicate n ((0 : Int), Value.slice none 0 0)).flatMap bkC := by
  rcases (show n = 0 ∨ n = 1 ∨ n = 2 ∨ n = 3 by omega) with rfl | rfl | rfl | rfl <;> (simp [madeCells, Value.cells, bkC, List.replicate]; try rfl)
theorem OwnB.zeros {w : World} {lo m n : Nat} (h : w.ownsRow lo 51 2 (.slice (some ⟨m, 0, none⟩) n n) n ((List.replicate n ((0 : Int), Value.slice none 0 0)).flatMap bkC)) : OwnB w lo (.slice (some ⟨m, 0, none⟩) n n) (List.replicate n (0, [])) := by
  refine ⟨List.replicate n (0, .slice none 0 0), by simpa using h, by simp, fun i p b hp hb => ?_⟩
  rw [List.getElem?_replicate] at hp hb
  split at hp
  · simp_all
    subst hp hb
    exact ⟨rfl, World.ownsRow_nil _ _ _ 1, by simp [Value.ownBlock]⟩
  · cases hp
theorem flat_set : ∀ (ps : List (Int × Value)) (i : Nat) (x : Int) (u : Value), i < ps.length → ((ps.flatMap bkC).set (i * 2) (.int .i64 x)).set (i * 2 + 1) u = (ps.set i (x, u)).flatMap bkC
  | [], _, _, _, h => by simp at h
  | p :: ps, 0, x, u, _ => by simp [bkC]
  | p :: ps, i + 1, x, u, h => by
    have ih := flat_set ps i x u (by simpa using h)
    have e1 : (i + 1) * 2 = i * 2 + 1 + 1 := by omega
    rw [List.flatMap_cons, List.set_cons_succ, List.flatMap_cons, ← ih, e1]
    simp [bkC]
theorem OwnB.store {w : World} {lo m n c : Nat} {bs : List (Int × List Int)} (h : OwnB w lo (.slice (some ⟨m, 0, none⟩) n c) bs) {i : Nat} (hi : i < bs.length) (x : Int) {u : Value} {r : List Int} (hu : Own w lo u r) (hap : u.ownBlock ≠ some m) :
    m < w.heap.size ∧ (∃ v, w.cell? ⟨m, i * 2, none⟩ = some v) ∧ (∃ v, w.cell? ⟨m, i * 2 + 1, none⟩ = some v) ∧ w.frozen? ⟨m, i * 2, none⟩ = false ∧ w.frozen? ⟨m, i * 2 + 1, none⟩ = false ∧
      Hid (OwnB ((w.setCell ⟨m, i * 2, none⟩ (.int .i64 x)).setCell ⟨m, i * 2 + 1, none⟩ u) lo (.slice (some ⟨m, 0, none⟩) n c) (bs.set i (x, r)) ∧ Kept (fun k => k = m) w ((w.setCell ⟨m, i * 2, none⟩ (.int .i64 x)).setCell ⟨m, i * 2 + 1, none⟩ u)) := by
  obtain ⟨ps, h1, h2, h3⟩ := h
  rcases h1.2 with ⟨e, _⟩ | ⟨g, cap, cur, e, hlo, hg, hnc, hcm, hcs, hx⟩
  · cases e
  injection e with e1 e2 e3
  injection e1 with e1
  injection e1 with e1
  subst e1 e2 e3
  have hin : ∀ j, j < cur.size → ∃ v, w.cell? ⟨m, j, none⟩ = some v := fun j hj => ⟨cur[j], by rw [cell_of_row _ _ j _ _ _ hg]; exact Array.getElem?_eq_getElem hj⟩
  have hk : Kept (fun k => k = m) w ((w.setCell ⟨m, i * 2, none⟩ (.int .i64 x)).setCell ⟨m, i * 2 + 1, none⟩ u) := Kept.setCell (F := fun k => k = m) (Kept.setCell (F := fun k => k = m) (Kept.refl _ w) (p := ⟨m, i * 2, none⟩) (.inl rfl) _) (p := ⟨m, i * 2 + 1, none⟩) (.inl rfl) _
  have hg2 : ((w.setCell ⟨m, i * 2, none⟩ (.int .i64 x)).setCell ⟨m, i * 2 + 1, none⟩ u).heap[m]? = some (.cells ((cur.setIfInBounds (i * 2) (.int .i64 x)).setIfInBounds (i * 2 + 1) u) 51 (0, 0)) :=
    heap_setCell_same _ _ _ _ _ _ (heap_setCell_same _ _ _ _ _ _ hg)
  refine ⟨(Array.getElem?_eq_some_iff.1 hg).1, hin _ (by omega), hin _ (by omega), by simp [World.frozen?, hg], by simp [World.frozen?, hg], Lib.hid ⟨⟨ps.set i (x, u), ?_, by simp [h2], fun j p b hp hb => ?_⟩, hk⟩⟩
  · rw [List.length_set]
    refine ⟨by rw [bk_len, List.length_set], .inr ⟨m, c, _, rfl, hlo, hg2, hnc, hcm, by simp [hcs], ?_⟩⟩
    rw [← flat_set ps i x u (by omega), ← hx, Array.toList_setIfInBounds, Array.toList_setIfInBounds, List.take_set, List.take_set]
  · rw [List.getElem?_set] at hp hb
    by_cases e : i = j
    · simp only [e, if_true] at hp hb
      split at hp <;> split at hb <;> simp_all
      subst hp hb
      exact ⟨rfl, hk.own hu (fun k hb' e' => hap (by rw [hb', e'])), fun k hk' e' => by
        injection hk' with hk'
        subst hk'
        exact hap e'⟩
    · simp only [e, if_false] at hp hb
      obtain ⟨f1, f2, f3⟩ := h3 j p b hp hb
      exact ⟨f1, hk.own f2 (fun k hb' e' => f3 k (by rw [e']; rfl) hb'), f3⟩
end Go.Proofs.YtfgpjelnijeoaaaDoor
