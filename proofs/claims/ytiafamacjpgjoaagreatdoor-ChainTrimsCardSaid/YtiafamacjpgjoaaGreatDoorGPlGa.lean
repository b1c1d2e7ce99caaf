/- Rows of rows of whole numbers of the call's own. No walk stands here. -/
import Derived.Test.YtiafamacjpgjoaaGreatDoorGPlR
import Derived.Test.YtiafamacjpgjoaaGreatDoorGPush
import Derived.Test.YtiafamacjpgjoaaGreatDoorGBits7
namespace Go.Proofs.YtiafamacjpgjoaaGreatDoor
open Go.RowKit Tide

theorem infoRow : (Tryz.prog.info? 41).map (fun i => (i.zero, i.size, i.bytes)) = some (some (.slice none 0 0), 1, 24) := by kernel_rfl

section
variable {W : World} {base b n c : Nat} {e : TypeId} {xs : List Value}
theorem ownV_form {u : Value} (h : W.ownsRow base e 1 u n xs) (hne : n ≠ 0) : ∃ b c, u = .slice (some ⟨b, 0, none⟩) n c ∧ base ≤ b := by
  rcases h.2 with ⟨_, h0⟩ | ⟨g, cap, cur, rfl, hb, _⟩
  · exact absurd h0 hne
  · exact ⟨g, cap, rfl, hb⟩
theorem ownV_len {u : Value} (h : W.ownsRow base e 1 u n xs) : xs.length = n := by rw [h.1, Nat.mul_one]
theorem ownV_cell (h : W.ownsRow base e 1 (.slice (some ⟨b, 0, none⟩) n c) n xs) (j : Nat) (u : Value) (hu : xs[j]? = some u) : W.cell? ⟨b, j, none⟩ = some u := by
  have hj : j < n := by
    have := (List.getElem?_eq_some_iff.1 hu).1
    rw [ownV_len h] at this
    exact this
  rw [World.ownsRow.cellAt h j (by omega), hu]
theorem ownV_free (h : W.ownsRow base e 1 (.slice (some ⟨b, 0, none⟩) n c) n xs) (j : Nat) : W.frozen? ⟨b, j, none⟩ = false := by
  rcases h.2 with ⟨h1, _⟩ | ⟨g, cap, cur, h1, hb, hg, _⟩
  · cases h1
  · injection h1 with e1 _ _
    injection e1 with e1
    injection e1 with e1 _
    subst e1
    unfold World.frozen?
    rw [show W.heap[(⟨b, j, none⟩ : Addr).block]? = _ from hg]
    simp
theorem ownV_set (h : W.ownsRow base e 1 (.slice (some ⟨b, 0, none⟩) n c) n xs) (j : Nat) (x : Value) : (W.setCell ⟨b, j, none⟩ x).ownsRow base e 1 (.slice (some ⟨b, 0, none⟩) n c) n (xs.set j x) := by
  refine ⟨by rw [List.length_set]; exact h.1, ?_⟩
  rcases h.2 with ⟨h1, _⟩ | ⟨g', cap', cur, h1, hb, hg, h2, h3, h4, h5⟩
  · cases h1
  · injection h1 with e1 e2 e3
    injection e1 with e1
    injection e1 with e1 _
    subst e1 e3
    obtain ⟨hlt, hk⟩ := Array.getElem?_eq_some_iff.1 hg
    refine .inr ⟨b, c, cur.setIfInBounds j x, rfl, hb, ?_, h2, h3, by rw [Array.size_setIfInBounds]; exact h4, ?_⟩
    · show (W.heap.modify b _)[b]? = _
      rw [Array.getElem?_eq_getElem (by rw [Array.size_modify]; exact hlt), Array.getElem_modify_self, hk]
      simp
    · rw [Array.toList_setIfInBounds, List.take_set, h5]
theorem ownV_obj {k : Nat} {v : Value} (h : W.ownsRow base e 1 v n xs) (hv : v.ownBlock = some k) : ∃ cur, W.heap[k]? = some (.cells cur e (0, 0)) := by
  rcases h.2 with ⟨rfl, _⟩ | ⟨g, cap, cur, rfl, _, hg, _⟩
  · cases hv
  · have : g = k := by simpa [Value.ownBlock] using hv
    subst this
    exact ⟨cur, hg⟩
theorem ownV_ne {base' n' : Nat} {e' : TypeId} {v v' : Value} {xs' : List Value} (h : W.ownsRow base e 1 v n xs) (h' : W.ownsRow base' e' 1 v' n' xs') (hne : e ≠ e') : ∀ k, v.ownBlock = some k → v'.ownBlock ≠ some k := fun k hk hk' => by
  obtain ⟨c, h1⟩ := ownV_obj h hk
  obtain ⟨c', h2⟩ := ownV_obj h' hk'
  rw [h1] at h2
  injection h2 with h2
  injection h2 with _ h2 _
  exact hne h2
end

structure GridO (w : World) (base : Nat) (v : Value) (vs : List Value) (cs : List (List Int)) : Prop where
  outer : w.ownsRow base 41 1 v cs.length vs
  rows : ∀ (i : Nat) (u : Value) (c : List Int), vs[i]? = some u → cs[i]? = some c → Own w base u c
  apart : ∀ (i j : Nat) (u u' : Value) (k : Nat), i < j → vs[i]? = some u → vs[j]? = some u' → u.ownBlock = some k → u'.ownBlock ≠ some k
structure GMix (w : World) (base lo : Nat) (v : Value) (k : Nat) (vs : List Value) (cs : List (List Int)) : Prop where
  outer : w.ownsRow base 41 1 v cs.length vs
  rows : ∀ (i : Nat) (u : Value) (c : List Int), i < k → vs[i]? = some u → cs[i]? = some c → Own w base u c
  olds : ∀ (i : Nat) (u : Value) (c : List Int), k ≤ i → vs[i]? = some u → cs[i]? = some c → Row w lo u (int64s c)
  apart : ∀ (i j : Nat) (u u' : Value) (k' : Nat), i < j → j < k → vs[i]? = some u → vs[j]? = some u' → u.ownBlock = some k' → u'.ownBlock ≠ some k'
section
variable {w w' : World} {base lo : Nat} {v : Value} {vs : List Value} {cs : List (List Int)}
theorem GridO.len (h : GridO w base v vs cs) : vs.length = cs.length := ownV_len h.outer
theorem GridO.grid (h : GridO w base v vs cs) : Grid w w.heap.size v cs :=
  ⟨vs, Row.of_own h.outer (Nat.le_refl _), h.len, fun i u c hu hc => (h.rows i u c hu hc).row⟩
theorem GridO.kept {F : Nat → Prop} (h : GridO w base v vs cs) (hk : Kept F w w') (hF : ∀ k, F k → k < base) : GridO w' base v vs cs :=
  ⟨hk.own h.outer (fun k hk' hf => by have := (World.ownsRow.lt h.outer k hk').1; have := hF k hf; omega),
    fun i u c hu hc => hk.own (h.rows i u c hu hc) (fun k hk' hf => by have := (World.ownsRow.lt (h.rows i u c hu hc) k hk').1; have := hF k hf; omega), h.apart⟩
theorem GridO.later {base' : Nat} (h : GridO w base v vs cs) (hb : base' ≤ base) : GridO w base' v vs cs :=
  ⟨own_later h.outer hb, fun i u c hu hc => own_later (h.rows i u c hu hc) hb, h.apart⟩
theorem GMix.step {b n c k : Nat} {u' : Value} {w1 : World} (h : GMix w base lo (.slice (some ⟨b, 0, none⟩) n c) k vs cs) (hk : k < cs.length) (hlo : lo ≤ base) (hw : Below w.heap.size w w1) (ho : Own w1 w.heap.size u' cs[k]) :
    GMix (w1.setCell ⟨b, k, none⟩ u') base lo (.slice (some ⟨b, 0, none⟩) n c) (k + 1) (vs.set k u') cs := by
  have hn0 : n = cs.length := by
    rcases h.outer.2 with ⟨h1, _⟩ | ⟨_, _, _, h1, _⟩
    · cases h1
    · injection h1
  subst hn0
  have hb := World.ownsRow.lt h.outer b rfl
  have hkl : k < vs.length := by rw [ownV_len h.outer]; exact hk
  have hO1 : w1.ownsRow base 41 1 (.slice (some ⟨b, 0, none⟩) cs.length c) cs.length vs := own_below h.outer hw
  have hS : Kept (fun j => j = b) w1 (w1.setCell ⟨b, k, none⟩ u') := (Kept.refl (fun j => j = b) w1).setCell (p := ⟨b, k, none⟩) (.inl rfl) u'
  have hset : ∀ {base' : Nat} {x : Value} {m : List Int}, Own w1 base' x m → Own (w1.setCell ⟨b, k, none⟩ u') base' x m := fun {base' x m} hx =>
    hS.own hx (fun j hj hf => ownV_ne hx hO1 (by decide) j hj (by rw [show j = b from hf]; rfl))
  refine ⟨ownV_set hO1 k u', fun i x m hi hx hm => ?_, fun i x m hi hx hm => ?_, fun i j x x' k' hij hjk hx hx' hk' => ?_⟩
  · by_cases hik : i = k
    · subst hik
      rw [List.getElem?_set_self hkl] at hx
      rw [List.getElem?_eq_getElem hk] at hm
      injection hx with hx; injection hm with hm
      subst hx hm
      exact own_later (hset ho) (by omega)
    · rw [List.getElem?_set_ne (Ne.symm hik)] at hx
      exact hset (own_below (h.rows i x m (by omega) hx hm) hw)
  · rw [List.getElem?_set_ne (by omega)] at hx
    refine Row.keep (h.olds i x m (by omega) hx hm) (fun b' o hb' => ?_)
    exact (hS.cell (p := ⟨b', o, none⟩) (by have := hw.size; show b' < _; omega) (by show ¬ b' = b; omega)).trans (hw.cell (p := ⟨b', o, none⟩) (by show b' < _; omega))
  · by_cases hjk' : j = k
    · subst hjk'
      rw [List.getElem?_set_self hkl] at hx'
      rw [List.getElem?_set_ne (by omega)] at hx
      injection hx' with hx'; subst hx'
      intro hk2
      have h1 := (World.ownsRow.lt ho k' hk2).1
      have hi : i < cs.length := by omega
      have h2 := (World.ownsRow.lt (h.rows i x _ hij hx (List.getElem?_eq_getElem hi)) k' hk').2
      omega
    · rw [List.getElem?_set_ne (by omega)] at hx hx'
      exact h.apart i j x x' k' hij (by omega) hx hx' hk'
theorem GMix.done {k : Nat} (h : GMix w base lo v k vs cs) (hk : cs.length ≤ k) : GridO w base v vs cs := by
  have hl := ownV_len h.outer
  exact ⟨h.outer, fun i u c hu hc => h.rows i u c (by have := (List.getElem?_eq_some_iff.1 hc).1; omega) hu hc, fun i j u u' k' hij hu hu' hk' => h.apart i j u u' k' hij (by have := (List.getElem?_eq_some_iff.1 hu').1; omega) hu hu' hk'⟩
end

theorem slices_one {w : World} {B : Nat} {vs : List Value} {cs : List (List Int)} (hl : vs.length = cs.length) (h : ∀ (i : Nat) (u : Value) (c : List Int), vs[i]? = some u → cs[i]? = some c → Row w B u (int64s c)) : ∀ u ∈ vs, u.oneCell' = true := fun u hu => by
  obtain ⟨i, hi, rfl⟩ := List.getElem_of_mem hu
  obtain ⟨_, A, c, e, _⟩ := h i _ _ (List.getElem?_eq_getElem hi) (List.getElem?_eq_getElem (by omega))
  rw [e]; rfl
end Go.Proofs.YtiafamacjpgjoaaGreatDoor
