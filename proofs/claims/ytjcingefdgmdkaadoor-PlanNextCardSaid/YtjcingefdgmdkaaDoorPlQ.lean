/- The next plan, as lists: what is left, where a fresh unit goes; it is right. No walk stands here. -/
import Derived.Test.YtjcingefdgmdkaaDoorPlU
import Derived.Test.YtjcingefdgmdkaaDoorPlC
namespace Go.Proofs.YtjcingefdgmdkaaDoor
open Go.RowKit Tide

/-- The first one of the fewest units among the first k. -/
def leastN (ds : List (List Int)) : Nat → Nat
  | 0 => 0
  | k + 1 => if (ds.getD k []).length < (ds.getD (leastN ds k) []).length then k else leastN ds k
/-- The first one of the first k that has fewer units than it had. -/
def homeN (cs ds : List (List Int)) : Nat → Option Nat
  | 0 => none
  | k + 1 => match homeN cs ds k with
    | some i => some i
    | none => if (ds.getD k []).length < (cs.getD k []).length then some k else none
/-- Where a fresh unit goes. -/
def toN (cs ds : List (List Int)) : Nat := (homeN cs ds ds.length).getD (leastN ds ds.length)
/-- The next plan: an error's number, an epoch, chains. -/
def nextD (ep : Int) (cs : List (List Int)) (gl : List Int) (fresh : Int) : Nat × Int × List (List Int) :=
  if rightB ep cs = false then (4, 0, [])
  else if ep = 1073741824 then (14, 0, [])
  else if [] ∈ cs.map (delL gl) then (16, 0, [])
  else if fresh < 0 then (0, ep + 1, cs.map (delL gl))
  else if 11 < fresh then (1, 0, [])
  else if fresh ∈ cs.flatten then (17, 0, [])
  else if 3 ≤ ((cs.map (delL gl)).getD (toN cs (cs.map (delL gl))) []).length then (13, 0, [])
  else (0, ep + 1, (cs.map (delL gl)).set (toN cs (cs.map (delL gl))) ((cs.map (delL gl)).getD (toN cs (cs.map (delL gl))) [] ++ [fresh]))
section
variable {ep fresh : Int} {cs ds : List (List Int)} {gl : List Int}
theorem next_form (h : rightB ep cs = false) : nextD ep cs gl fresh = (4, 0, []) := by unfold nextD; rw [if_pos h]
theorem next_epoch (h : rightB ep cs = true) (h1 : ep = 1073741824) : nextD ep cs gl fresh = (14, 0, []) := by
  unfold nextD; rw [if_neg (by rw [h]; simp), if_pos h1]
theorem next_none (h : rightB ep cs = true) (h1 : ep ≠ 1073741824) (h2 : [] ∈ cs.map (delL gl)) : nextD ep cs gl fresh = (16, 0, []) := by
  unfold nextD; rw [if_neg (by rw [h]; simp), if_neg h1, if_pos h2]
theorem next_old (h : rightB ep cs = true) (h1 : ep ≠ 1073741824) (h2 : ¬ [] ∈ cs.map (delL gl)) (h3 : fresh < 0) : nextD ep cs gl fresh = (0, ep + 1, cs.map (delL gl)) := by
  unfold nextD; rw [if_neg (by rw [h]; simp), if_neg h1, if_neg h2, if_pos h3]
theorem next_range (h : rightB ep cs = true) (h1 : ep ≠ 1073741824) (h2 : ¬ [] ∈ cs.map (delL gl)) (h3 : ¬ fresh < 0) (h4 : 11 < fresh) : nextD ep cs gl fresh = (1, 0, []) := by
  unfold nextD; rw [if_neg (by rw [h]; simp), if_neg h1, if_neg h2, if_neg h3, if_pos h4]
theorem next_state (h : rightB ep cs = true) (h1 : ep ≠ 1073741824) (h2 : ¬ [] ∈ cs.map (delL gl)) (h3 : ¬ fresh < 0) (h4 : ¬ 11 < fresh) (h5 : fresh ∈ cs.flatten) : nextD ep cs gl fresh = (17, 0, []) := by
  unfold nextD; rw [if_neg (by rw [h]; simp), if_neg h1, if_neg h2, if_neg h3, if_neg h4, if_pos h5]
theorem next_full (h : rightB ep cs = true) (h1 : ep ≠ 1073741824) (h2 : ¬ [] ∈ cs.map (delL gl)) (h3 : ¬ fresh < 0) (h4 : ¬ 11 < fresh) (h5 : ¬ fresh ∈ cs.flatten) (hd : ds = cs.map (delL gl)) (h6 : 3 ≤ (ds.getD (toN cs ds) []).length) : nextD ep cs gl fresh = (13, 0, []) := by
  subst hd
  unfold nextD; rw [if_neg (by rw [h]; simp), if_neg h1, if_neg h2, if_neg h3, if_neg h4, if_neg h5, if_pos h6]
theorem next_new (h : rightB ep cs = true) (h1 : ep ≠ 1073741824) (h2 : ¬ [] ∈ cs.map (delL gl)) (h3 : ¬ fresh < 0) (h4 : ¬ 11 < fresh) (h5 : ¬ fresh ∈ cs.flatten) (hd : ds = cs.map (delL gl)) (h6 : ¬ 3 ≤ (ds.getD (toN cs ds) []).length) :
    nextD ep cs gl fresh = (0, ep + 1, ds.set (toN cs ds) (ds.getD (toN cs ds) [] ++ [fresh])) := by
  subst hd
  unfold nextD; rw [if_neg (by rw [h]; simp), if_neg h1, if_neg h2, if_neg h3, if_neg h4, if_neg h5, if_neg h6]

theorem least_lt (ds : List (List Int)) : ∀ k, k ≤ ds.length → 0 < ds.length → leastN ds k < ds.length
  | 0, _, h => h
  | k + 1, hk, h => by
    unfold leastN
    split
    · omega
    · exact least_lt ds k (by omega) h
theorem least_bd (ds : List (List Int)) : ∀ k, leastN ds (k + 1) ≤ k
  | 0 => by unfold leastN; unfold leastN; split <;> omega
  | k + 1 => by
    rw [leastN]
    split
    · omega
    · have := least_bd ds k; omega
theorem home_lt (cs ds : List (List Int)) : ∀ k i, homeN cs ds k = some i → i < k
  | 0, i, h => by cases h
  | k + 1, i, h => by
    unfold homeN at h
    split at h
    · rename_i j hj
      injection h with h; subst h
      have := home_lt cs ds k _ hj; omega
    · split at h
      · injection h with h; omega
      · cases h
theorem home_stays {k i : Nat} (h : homeN cs ds k = some i) : ∀ m, homeN cs ds (k + m) = some i
  | 0 => h
  | m + 1 => by
    rw [show k + (m + 1) = (k + m) + 1 by omega]
    unfold homeN
    rw [home_stays h m]
theorem home_none {k : Nat} (h : homeN cs ds k = none) (hl : ¬ (ds.getD k []).length < (cs.getD k []).length) : homeN cs ds (k + 1) = none := by
  unfold homeN; rw [h]; exact if_neg hl
theorem home_some {k : Nat} (h : homeN cs ds k = none) (hl : (ds.getD k []).length < (cs.getD k []).length) : homeN cs ds (k + 1) = some k := by
  unfold homeN; rw [h]; exact if_pos hl
theorem to_home {k : Nat} (h : homeN cs ds k = none) (hl : (ds.getD k []).length < (cs.getD k []).length) (hk : k < ds.length) : toN cs ds = k := by
  unfold toN
  have := home_stays (home_some h hl) (ds.length - (k + 1))
  rw [show k + 1 + (ds.length - (k + 1)) = ds.length by omega] at this
  rw [this]; rfl
theorem to_least (h : homeN cs ds ds.length = none) : toN cs ds = leastN ds ds.length := by unfold toN; rw [h]; rfl
theorem to_lt (cs : List (List Int)) {ds : List (List Int)} (h : 0 < ds.length) : toN cs ds < ds.length := by
  unfold toN
  cases e : homeN cs ds ds.length with
  | none => exact least_lt ds _ (Nat.le_refl _) h
  | some i => exact home_lt cs ds _ _ e
theorem right_mk (h0 : 0 ≤ ep) (h1 : ep ≤ 1073741824) (h2 : 1 ≤ cs.length) (h3 : cs.length ≤ 3) (h4 : ∀ c ∈ cs, 1 ≤ c.length ∧ c.length ≤ 3) (h5 : goodU cs.flatten = true) : rightB ep cs = true := by
  unfold rightB
  rw [h5, decide_eq_true h0, decide_eq_true h1, decide_eq_true h2, decide_eq_true h3]
  simp only [Bool.true_and, Bool.and_true, List.all_eq_true]
  intro c hc
  have := h4 c hc
  unfold sizeB
  rw [decide_eq_true this.1, decide_eq_true this.2]; rfl
theorem good_of {l m : List Int} (h : goodU l = true) (hs : List.Sublist m l) : goodU m = true := by
  unfold goodU at h ⊢
  simp only [decide_eq_true_eq] at h ⊢
  exact ⟨fun u hu => h.1 u (hs.subset hu), h.2.sublist hs⟩
theorem good_perm {l m : List Int} (h : goodU l = true) (hp : l.Perm m) : goodU m = true := by
  unfold goodU at h ⊢
  simp only [decide_eq_true_eq] at h ⊢
  exact ⟨fun u hu => h.1 u (hp.mem_iff.2 hu), hp.nodup_iff.1 h.2⟩
theorem right_good (h : rightB ep cs = true) : goodU cs.flatten = true := by
  unfold rightB at h
  simp only [Bool.and_eq_true] at h
  exact h.2.2.2.2.2
theorem del_flat (gl : List Int) (cs : List (List Int)) : (cs.map (delL gl)).flatten = delL gl cs.flatten := by
  unfold delL
  rw [List.filter_flatten]
theorem set_flat {t : Nat} (ds : List (List Int)) (ht : t < ds.length) (f : Int) : (ds.flatten ++ [f]).Perm (ds.set t (ds.getD t [] ++ [f])).flatten := by
  have hg : ds.getD t [] = ds[t] := by rw [List.getD_eq_getElem?_getD, List.getElem?_eq_getElem ht]; rfl
  rw [hg, List.set_eq_take_append_cons_drop, if_pos ht]
  have h1 : ds.flatten = (ds.take t).flatten ++ (ds[t] ++ (ds.drop (t + 1)).flatten) := by
    rw [flat_split ds t, List.drop_eq_getElem_cons ht, List.flatten_cons]
  rw [h1, List.flatten_append, List.flatten_cons, List.append_assoc, List.append_assoc]
  refine List.Perm.append_left _ ?_
  rw [List.append_assoc]
  exact List.Perm.append_left _ List.perm_append_comm
theorem next_right (h0 : (nextD ep cs gl fresh).1 = 0) : rightB (nextD ep cs gl fresh).2.1 (nextD ep cs gl fresh).2.2 = true := by
  cases hR : rightB ep cs with
  | false => rw [next_form hR] at h0; cases h0
  | true =>
  by_cases h1 : ep = 1073741824
  · rw [next_epoch hR h1] at h0; cases h0
  by_cases h2 : [] ∈ cs.map (delL gl)
  · rw [next_none hR h1 h2] at h0; cases h0
  obtain ⟨e0, e1, n1, n3, hs, hu, hn⟩ := right_parts hR
  have hlen : (cs.map (delL gl)).length = cs.length := by simp
  have hgood : goodU (cs.map (delL gl)).flatten = true := by
    rw [del_flat]; exact good_of (right_good hR) List.filter_sublist
  have hsz : ∀ c ∈ cs.map (delL gl), 1 ≤ c.length ∧ c.length ≤ 3 := fun c hc => by
    refine ⟨?_, ?_⟩
    · rcases Nat.eq_zero_or_pos c.length with h | h
      · rw [List.length_eq_zero_iff] at h; subst h; exact absurd hc h2
      · exact h
    · obtain ⟨d, hd, rfl⟩ := List.mem_map.1 hc
      exact Nat.le_trans (delL_len gl d) (hs d hd).2
  by_cases h3 : fresh < 0
  · rw [next_old hR h1 h2 h3]
    exact right_mk (by show 0 ≤ ep + 1; omega) (by show ep + 1 ≤ _; omega) (by rw [hlen]; exact n1) (by rw [hlen]; exact n3) hsz hgood
  by_cases h4 : 11 < fresh
  · rw [next_range hR h1 h2 h3 h4] at h0; cases h0
  by_cases h5 : fresh ∈ cs.flatten
  · rw [next_state hR h1 h2 h3 h4 h5] at h0; cases h0
  generalize hd : cs.map (delL gl) = ds at *
  by_cases h6 : 3 ≤ (ds.getD (toN cs ds) []).length
  · rw [next_full hR h1 (by rw [hd]; exact h2) h3 h4 h5 hd.symm h6] at h0; cases h0
  · rw [next_new hR h1 (by rw [hd]; exact h2) h3 h4 h5 hd.symm h6]
    have ht := to_lt cs (ds := ds) (by omega)
    refine right_mk (by show 0 ≤ ep + 1; omega) (by show ep + 1 ≤ _; omega) (by show 1 ≤ (ds.set _ _).length; rw [List.length_set, hlen]; exact n1) (by show (ds.set _ _).length ≤ 3; rw [List.length_set, hlen]; exact n3) ?_ ?_
    · intro c hc
      rcases List.mem_or_eq_of_mem_set hc with h | h
      · exact hsz c h
      · subst h; rw [List.length_append, List.length_singleton]; omega
    · refine good_perm ?_ (set_flat ds ht fresh)
      rw [good_snoc, hgood]
      unfold takeB
      rw [decide_eq_true (show 0 ≤ fresh by omega), decide_eq_true (show fresh < 12 by omega), decide_eq_false (show ¬ fresh ∈ ds.flatten from fun hm => h5 (by
        rw [← hd, del_flat] at hm
        exact (List.mem_filter.1 hm).1))]
      rfl
theorem units_mem (hR : rightB ep cs = true) : fresh ∈ unitsL cs ↔ fresh ∈ cs.flatten := by
  obtain ⟨_, _, _, _, _, hu, _⟩ := right_parts hR
  unfold unitsL
  simp only [List.mem_filter, List.mem_map, List.mem_range, decide_eq_true_eq]
  constructor
  · exact fun h => h.2
  · intro h
    have := hu fresh h
    exact ⟨⟨fresh.toNat, by omega, by omega⟩, h⟩
theorem map_step (f : List Int → List Int) (cs : List (List Int)) (k : Nat) (hk : k < cs.length) : ((cs.take k).map f ++ cs.drop k).set k (f cs[k]) = (cs.take (k + 1)).map f ++ cs.drop (k + 1) := by
  have h1 : ((cs.take k).map f).length = k := by simp; omega
  rw [List.drop_eq_getElem_cons hk, List.set_append_right _ _ (by omega), h1, Nat.sub_self, List.set_cons_zero, List.take_succ_eq_append_getElem hk, List.map_append, List.append_assoc]
  rfl
theorem map_mid (f : List Int → List Int) (cs : List (List Int)) (k : Nat) (hk : k < cs.length) : ((cs.take k).map f ++ cs.drop k)[k]? = some cs[k] := by
  have h1 : ((cs.take k).map f).length = k := by simp; omega
  rw [List.getElem?_append_right (by omega), h1, Nat.sub_self, List.drop_eq_getElem_cons hk]; rfl
end
end Go.Proofs.YtjcingefdgmdkaaDoor
