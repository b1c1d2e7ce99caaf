/- What a Take tells and leaves, stream by stream. No walk stands here. -/
import Derived.Test.YtfgpjelnijeoaaaDoorTkD
namespace Go.Proofs.YtfgpjelnijeoaaaDoor
open Go.RowKit Tide

theorem upB_lt {l : List Int} (h : upB l = true) : ∀ (j i : Nat) (hj : j < l.length) (hi : i < j), l[i]'(by omega) < l[j]
  | 0, _, _, hi => absurd hi (Nat.not_lt_zero _)
  | j + 1, i, hj, hi => by
    have h1 := (of_decide_eq_true h (j + 1) hj).2.2 (by omega)
    have h1 : l[j]'(by omega) < l[j + 1] := h1
    rcases Nat.lt_or_ge i j with hlt | hge
    · exact Int.lt_trans (upB_lt h j i (by omega) hlt) h1
    · obtain rfl : i = j := by omega
      exact h1
theorem upB_nodup {l : List Int} (h : upB l = true) : l.Nodup := by
  rw [List.Nodup, List.pairwise_iff_getElem]
  intro i j hi hj hij
  have := upB_lt h j i hj hij
  omega
theorem getD_set (all : List (List Int)) (x y : Nat) (r : List Int) (hx : x < all.length) : (all.set x r).getD y [] = if y = x then r else all.getD y [] := by
  rw [List.getD_eq_getElem?_getD, List.getElem?_set, List.getD_eq_getElem?_getD]
  by_cases e : y = x
  · subst e; simp [hx]
  · rw [if_neg (fun h => e h.symm), if_neg e]
theorem foldT (nx : Nat) : ∀ (l : List Int) (p : List (Int × List Int) × List (List Int)), p.2.length = 13 → l.Nodup → (∀ x ∈ l, 0 ≤ x ∧ x ≤ 12) →
    (l.foldl (stepT nx) p).1 = p.1 ++ l.map (fun x => (x, (p.2.getD x.toNat []).take 4)) ∧ ∀ y : Nat, (l.foldl (stepT nx) p).2.getD y [] = if (y : Int) ∈ l then (nx : Int) :: p.2.getD y [] else p.2.getD y []
  | [], p, _, _, _ => ⟨by simp, fun y => by simp⟩
  | x :: l, p, hp, hn, hx => by
    obtain ⟨h1, h2⟩ := List.nodup_cons.1 hn
    have hx0 := hx x (List.mem_cons_self ..)
    have hs : ∀ y : Nat, (stepT nx p x).2.getD y [] = if y = x.toNat then (nx : Int) :: p.2.getD x.toNat [] else p.2.getD y [] := fun y => getD_set p.2 x.toNat y _ (by omega)
    obtain ⟨e1, e2⟩ := foldT nx l (stepT nx p x) (by simp [stepT, hp]) h2 (fun y hy => hx y (List.mem_cons_of_mem _ hy))
    rw [List.foldl_cons]
    refine ⟨?_, fun y => ?_⟩
    · rw [e1]
      have : (stepT nx p x).1 = p.1 ++ [(x, (p.2.getD x.toNat []).take 4)] := rfl
      rw [this, List.append_assoc, List.map_cons, List.singleton_append]
      refine congrArg (fun z => p.1 ++ (x, (p.2.getD x.toNat []).take 4) :: z) ?_
      refine List.map_congr_left fun z hz => ?_
      have hz0 := hx z (List.mem_cons_of_mem _ hz)
      rw [hs, if_neg (fun e => h1 (by
        have : z = x := by omega
        rw [← this]; exact hz))]
    · rw [e2, hs]
      by_cases e : y = x.toNat
      · subst e
        have ex : ((x.toNat : Nat) : Int) = x := by omega
        rw [if_pos rfl, ex, if_neg h1, if_pos (List.mem_cons_self ..)]
      · have ne : ¬ (y : Int) = x := by omega
        rw [if_neg e]
        by_cases hm : (y : Int) ∈ l
        · rw [if_pos hm, if_pos (List.mem_cons_of_mem _ hm)]
        · rw [if_neg hm, if_neg (fun h => by
            rcases List.mem_cons.1 h with h | h
            · exact ne h
            · exact hm h)]
theorem takeL_tells {nx : Nat} {all : List (List Int)} {l : List Int} (ha : all.length = 13) (hu : upB l = true) : (takeL nx all l).1 = l.map (fun x => (x, (all.getD x.toNat []).take 4)) := by
  have := (foldT nx l ([], all) ha (upB_nodup hu) (upB_mem hu)).1
  simpa [takeL] using this
theorem takeL_leaves {nx : Nat} {all : List (List Int)} {l : List Int} (ha : all.length = 13) (hu : upB l = true) (y : Nat) : (takeL nx all l).2.getD y [] = if (y : Int) ∈ l then (nx : Int) :: all.getD y [] else all.getD y [] :=
  (foldT nx l ([], all) ha (upB_nodup hu) (upB_mem hu)).2 y
end Go.Proofs.YtfgpjelnijeoaaaDoor
