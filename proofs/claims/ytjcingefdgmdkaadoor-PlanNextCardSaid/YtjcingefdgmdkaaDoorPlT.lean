/- Where addresses stand on a plan, and back; tails of chains' tails: the numbers. No walk stands here. -/
import Derived.Test.YtjcingefdgmdkaaDoorPlS
namespace Go.Proofs.YtjcingefdgmdkaaDoor
open Go.RowKit Tide

/-- The address of a chain's own one; -1: there is none. -/
def addrI (ep : Int) (cs : List (List Int)) (ch at' : Int) : Int := if rightB ep cs = true ∧ 0 ≤ ch ∧ ch < cs.length ∧ 0 ≤ at' ∧ at' ≤ 4096 then at' * cs.length + ch else -1
/-- The last own address below a tail. -/
def lastI (t : Int) : Int := min (max t 0) 4096 - 1
/-- The tail of the first k chains' tails. -/
def tailI (ep : Int) (cs : List (List Int)) (ts : List Int) : Nat → Int
  | 0 => 0
  | k + 1 => max (tailI ep cs ts k) (addrI ep cs k (lastI (ts.getD k 0)) + 1)
/-- An address stands below its chain's tail. -/
def belowB (ep : Int) (cs : List (List Int)) (ts : List Int) (a : Int) : Bool := decide (rightB ep cs = true ∧ 0 ≤ a ∧ a ≤ 4095) && (match ts[(a % cs.length).toNat]? with | some t => decide (a / cs.length < t) | none => false)
theorem below_iff {ep : Int} {cs : List (List Int)} {ts : List Int} {a : Int} : belowB ep cs ts a = true ↔ rightB ep cs = true ∧ 0 ≤ a ∧ a ≤ 4095 ∧ ∃ (j : Nat) (t : Int), j = (a % cs.length).toNat ∧ ts[j]? = some t ∧ a / cs.length < t := by
  unfold belowB
  simp only [Bool.and_eq_true, decide_eq_true_eq]
  constructor
  · rintro ⟨⟨h1, h2, h3⟩, h4⟩
    refine ⟨h1, h2, h3, (a % cs.length).toNat, ?_⟩
    revert h4
    cases e : ts[(a % cs.length).toNat]? with
    | none => simp
    | some t => intro h; exact ⟨t, rfl, rfl, by simpa using h⟩
  · rintro ⟨h1, h2, h3, j, t, rfl, h5, h6⟩
    refine ⟨⟨h1, h2, h3⟩, ?_⟩
    rw [h5]
    simpa using h6

theorem last_bd (t : Int) : -1 ≤ lastI t ∧ lastI t ≤ 4095 := by unfold lastI; omega
theorem addr_bd (ep : Int) (cs : List (List Int)) (ch at' : Int) : -1 ≤ addrI ep cs ch at' ∧ addrI ep cs ch at' ≤ 20000 := by
  unfold addrI
  split
  · rename_i h
    obtain ⟨hr, h1, h2, h3, h4⟩ := h
    obtain ⟨_, _, n1, n3, _⟩ := right_parts hr
    have : cs.length = 1 ∨ cs.length = 2 ∨ cs.length = 3 := by omega
    rcases this with e | e | e <;> rw [e] at h2 ⊢ <;> simp at h2 ⊢ <;> omega
  · omega
theorem tail_bd (ep : Int) (cs : List (List Int)) (ts : List Int) : ∀ k, 0 ≤ tailI ep cs ts k ∧ tailI ep cs ts k ≤ 20001
  | 0 => ⟨by simp [tailI], by simp [tailI]⟩
  | k + 1 => by
    have ih := tail_bd ep cs ts k
    have := addr_bd ep cs k (lastI (ts.getD k 0))
    unfold tailI
    omega
theorem tail_mono (ep : Int) (cs : List (List Int)) (ts : List Int) : ∀ k j : Nat, j < k → addrI ep cs j (lastI (ts.getD j 0)) + 1 ≤ tailI ep cs ts k
  | k + 1, j, h => by
    unfold tailI
    by_cases e : j = k
    · subst e; omega
    · have := tail_mono ep cs ts k j (by omega); omega
theorem tail_wrong {ep : Int} {cs : List (List Int)} (h : rightB ep cs = false) (ts : List Int) : ∀ k, tailI ep cs ts k = 0
  | 0 => rfl
  | k + 1 => by
    unfold tailI
    rw [tail_wrong h ts k]
    unfold addrI
    rw [if_neg (by rw [h]; simp)]
    rfl
theorem tail_at (ep : Int) (cs : List (List Int)) (ts : List Int) : ∀ k, tailI ep cs ts k = 0 ∨ ∃ j, j < k ∧ tailI ep cs ts k = addrI ep cs j (lastI (ts.getD j 0)) + 1
  | 0 => .inl rfl
  | k + 1 => by
    have hm : tailI ep cs ts (k + 1) = max (tailI ep cs ts k) (addrI ep cs k (lastI (ts.getD k 0)) + 1) := by rw [tailI]
    rcases Int.le_total (tailI ep cs ts k) (addrI ep cs k (lastI (ts.getD k 0)) + 1) with h | h
    · exact .inr ⟨k, by omega, by rw [hm]; omega⟩
    · rcases tail_at ep cs ts k with h0 | ⟨j, hj, h1⟩
      · exact .inl (by rw [hm]; omega)
      · exact .inr ⟨j, by omega, by rw [hm]; omega⟩
/-- No address from the tail on stands below its chain's tail. -/
theorem tail_up {ep : Int} {cs : List (List Int)} {ts : List Int} {a : Int} (h : belowB ep cs ts a = true) : a < tailI ep cs ts ts.length := by
  rw [below_iff] at h
  obtain ⟨hr, h0, h1, j, t, hj, ht, hlt⟩ := h
  obtain ⟨_, _, n1, n3, _⟩ := right_parts hr
  have hjl : j < ts.length := (List.getElem?_eq_some_iff.1 ht).1
  have hm := tail_mono ep cs ts ts.length j hjl
  have hd : ts.getD j 0 = t := by rw [List.getD_eq_getElem?_getD, ht]; rfl
  rw [hd] at hm
  refine Int.lt_of_lt_of_le ?_ hm
  unfold addrI
  have hn : cs.length = 1 ∨ cs.length = 2 ∨ cs.length = 3 := by omega
  have hc : rightB ep cs = true ∧ 0 ≤ (j : Int) ∧ (j : Int) < cs.length ∧ 0 ≤ lastI t ∧ lastI t ≤ 4096 := by
    unfold lastI
    refine ⟨hr, by omega, ?_, ?_, ?_⟩ <;> rcases hn with e | e | e <;> rw [e] at hj hlt <;> (try rw [e]) <;> omega
  rw [if_pos hc]
  unfold lastI
  rcases hn with e | e | e <;> rw [e] at hj hlt ⊢ <;> omega
/-- The address ahead of the tail does. -/
theorem tail_down {ep : Int} {cs : List (List Int)} {ts : List Int} (hts : ∀ t ∈ ts, t ≤ 300) (h : tailI ep cs ts ts.length ≠ 0) : belowB ep cs ts (tailI ep cs ts ts.length - 1) = true := by
  rcases tail_at ep cs ts ts.length with h0 | ⟨j, hj, h1⟩
  · exact absurd h0 h
  · have h2 := (tail_bd ep cs ts ts.length).1
    rw [h1] at h h2 ⊢
    have hd : ts.getD j 0 = ts[j] := by rw [List.getD_eq_getElem?_getD, List.getElem?_eq_getElem hj]; rfl
    rw [hd] at h h2 ⊢
    have h300 := hts _ (List.getElem_mem hj)
    have hget : ts[j]? = some ts[j] := List.getElem?_eq_getElem hj
    generalize ts[j] = t at *
    unfold addrI at h h2 ⊢
    split at h
    · rename_i hc
      obtain ⟨hr, g1, g2, g3, g4⟩ := hc
      obtain ⟨_, _, n1, n3, _⟩ := right_parts hr
      rw [if_pos ⟨hr, g1, g2, g3, g4⟩]
      rw [below_iff]
      unfold lastI at g3 g4 ⊢
      have hn : cs.length = 1 ∨ cs.length = 2 ∨ cs.length = 3 := by omega
      refine ⟨hr, ?_, ?_, j, t, ?_, hget, ?_⟩ <;> rcases hn with e | e | e <;> rw [e] at g2 ⊢ <;> simp at g2 ⊢ <;> omega
    · omega
end Go.Proofs.YtjcingefdgmdkaaDoor
