/- A number's bytes put one by one into an array of nine. It speaks of no program. -/
import Derived.Test.YtcmihmilkcihcaaDoorTwo
import Derived.Test.YtcmihmilkcihcaaDoorNum7
namespace Tide
open Go Go.RowKit

/-- The array at g holds these bytes first; no mark lies on it. -/
def Digits (w0 : World) (g : Nat) (t : TypeId) (ds : List UInt8) (wr : World) : Prop :=
  ∃ cur : Array Value, wr.heap[g]? = some (.cells cur t (0, 0)) ∧ cur.size = 9 ∧ cur.toList.take ds.length = u8s ds ∧ (∀ j, j < 9 → ∃ z, cur[j]? = some (.int .u8 z)) ∧ Below w0.heap.size w0 wr
section
variable {w0 wr : World} {g : Nat} {t : TypeId} {ds : List UInt8}
theorem Digits.start (W : World) (t : TypeId) : Digits W W.heap.size t [] (W.alloc (.cells #[.int .u8 0, .int .u8 0, .int .u8 0, .int .u8 0, .int .u8 0, .int .u8 0, .int .u8 0, .int .u8 0, .int .u8 0] t)) :=
  ⟨_, heap_alloc_new W _, rfl, rfl, fun j hj => ⟨0, by
    rcases j with _ | _ | _ | _ | _ | _ | _ | _ | _ | j
    all_goals first | rfl | omega⟩, (Below.refl _ _).alloc (Nat.le_refl _) _⟩
theorem Digits.facts (h : Digits w0 g t ds wr) (k : Nat) (hk : k < 9) : (∃ z, wr.cell? ⟨g, k, none⟩ = some (.int .u8 z)) ∧ wr.frozen? ⟨g, k, none⟩ = false := by
  obtain ⟨cur, h1, _, _, h4, _⟩ := h
  obtain ⟨z, hz⟩ := h4 k hk
  refine ⟨⟨z, by rw [cell_of_row _ _ k _ _ _ h1, hz]⟩, ?_⟩
  unfold World.frozen?
  rw [show wr.heap[(⟨g, k, none⟩ : Addr).block]? = _ from h1]
  simp
theorem Digits.below (h : Digits w0 g t ds wr) : Below w0.heap.size w0 wr := by
  obtain ⟨_, _, _, _, _, h5⟩ := h
  exact h5
theorem Digits.put (h : Digits w0 g t ds wr) (hg : w0.heap.size ≤ g) (c : UInt8) (k : Nat) (hk : k = ds.length) (h9 : k < 9) (n : Int) (hn : n = (c.toNat : Int)) : Digits w0 g t (ds ++ [c]) (wr.setCell ⟨g, k, none⟩ (.int .u8 n)) := by
  subst hk hn
  obtain ⟨cur, h1, h2, h3, h4, h5⟩ := h
  refine ⟨cur.setIfInBounds ds.length (.int .u8 c.toNat), heap_setCell_same wr g ds.length cur t _ h1, by simp [h2], ?_, fun j hj => ?_, h5.setCell (p := ⟨g, ds.length, none⟩) hg _⟩
  · rw [Array.toList_setIfInBounds, List.length_append, List.length_singleton, u8s_append]
    have hl : ds.length < cur.toList.length := by
      have : cur.toList.length = 9 := by rw [← h2]; exact Array.length_toList
      omega
    rw [List.take_succ_eq_append_getElem (by rw [List.length_set]; exact hl), List.getElem_set_self, List.take_set_of_le (Nat.le_refl _), h3]
    rfl
  · by_cases hj2 : j = ds.length
    · subst hj2
      exact ⟨_, by rw [Array.getElem?_setIfInBounds_self_of_lt (by omega)]⟩
    · obtain ⟨z, hz⟩ := h4 j hj
      exact ⟨z, by rw [Array.getElem?_setIfInBounds_ne (fun e => hj2 e.symm)]; exact hz⟩
/-- The first bytes, as a slice. -/
theorem Digits.row (h : Digits w0 g t ds wr) (hd : ds.length ≤ 9) (B : Nat) (hB : g < B) (n : Nat) (hn : n = ds.length) : Bytes wr B (.slice (some ⟨g, 0, none⟩) n 9) ds := by
  subst hn
  obtain ⟨cur, h1, h2, h3, _, _⟩ := h
  refine ⟨by rw [u8s_length]; omega, some ⟨g, 0, none⟩, 9, by rw [u8s_length], by rw [u8s_length]; exact hd, by omega, fun _ => ⟨g, 0, rfl, hB, fun j u hu => ?_⟩⟩
  rw [Nat.zero_add, cell_of_row _ _ j _ _ _ h1]
  have hj : j < ds.length := by
    have := (List.getElem?_eq_some_iff.1 hu).1
    rwa [u8s_length] at this
  rw [← h3, List.getElem?_take_of_lt hj] at hu
  rw [← hu, Array.getElem?_toList]
theorem Digits.kept {F : Nat → Prop} {w' : World} (h : Digits w0 g t ds wr) (hk : Kept F wr w') (hF : ¬ F g) (hB : ∀ k, F k → w0.heap.size ≤ k) : Digits w0 g t ds w' := by
  obtain ⟨cur, h1, h2, h3, h4, h5⟩ := h
  exact ⟨cur, hk.heap h1 hF, h2, h3, h4, Tide.Below.kept h5 hk h5.size hB⟩
end
theorem byte_high (n : Nat) : (n : Int) % 128 + 128 = ((UInt8.ofNat (n % 128 + 128)).toNat : Int) := by
  rw [UInt8.toNat_ofNat_of_lt' (show n % 128 + 128 < 256 by omega)]
  omega
theorem byte_low (n : Nat) (h : n < 128) : (n : Int) % 256 = ((UInt8.ofNat n).toNat : Int) := by
  rw [UInt8.toNat_ofNat_of_lt' (show n < 256 by omega)]
  omega
end Tide
