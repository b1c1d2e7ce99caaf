/- What the library's test of a text answers over whatever tables: plain words. It speaks of no program. -/
import Derived.Test.YtcddgllckadodaaDoorGMem
import Derived.Lib.ValidAsc
namespace Tide
open Go

/-- How many bytes a lead byte from 128 on takes with it (0: the text isn't right), by the tables f, lo, hi. -/
def leadV (f lo hi : Nat → Nat) (t : ByteArray) : Nat :=
  if f (t.get! 0).toNat % 8 = 2 then (if t.size < 2 ∨ (t.get! 1).toNat < lo (f (t.get! 0).toNat / 16) ∨ hi (f (t.get! 0).toNat / 16) < (t.get! 1).toNat then 0 else 2) else
    if f (t.get! 0).toNat % 8 = 3 then (if t.size < 3 ∨ (t.get! 1).toNat < lo (f (t.get! 0).toNat / 16) ∨ hi (f (t.get! 0).toNat / 16) < (t.get! 1).toNat ∨ (t.get! 2).toNat < 128 ∨ 191 < (t.get! 2).toNat then 0 else 3) else
      if f (t.get! 0).toNat % 8 = 4 then (if t.size < 4 ∨ (t.get! 1).toNat < lo (f (t.get! 0).toNat / 16) ∨ hi (f (t.get! 0).toNat / 16) < (t.get! 1).toNat ∨ (t.get! 2).toNat < 128 ∨ 191 < (t.get! 2).toNat ∨ (t.get! 3).toNat < 128 ∨ 191 < (t.get! 3).toNat then 0 else 4) else 0
def validN (f lo hi : Nat → Nat) : Nat → ByteArray → Bool
  | 0, _ => true
  | n + 1, t => if t.size = 0 then true else if (t.get! 0).toNat < 128 then validN f lo hi n (t.extract 1 t.size) else
    if leadV f lo hi t = 0 then false else validN f lo hi n (t.extract (leadV f lo hi t) t.size)
/-- What the test answers. -/
def validV (f lo hi : Nat → Nat) (t : ByteArray) : Bool := validN f lo hi t.size t
section
variable {f lo hi : Nat → Nat}
theorem validN_fuel : ∀ (n m : Nat) (t : ByteArray), t.size ≤ n → t.size ≤ m → validN f lo hi n t = validN f lo hi m t
  | 0, 0, _, _, _ => rfl
  | 0, m + 1, t, h, _ => by
    have h0 : t.size = 0 := by omega
    unfold validN
    rw [if_pos h0]
  | n + 1, 0, t, _, h => by
    have h0 : t.size = 0 := by omega
    unfold validN
    rw [if_pos h0]
  | n + 1, m + 1, t, h, h' => by
    unfold validN
    by_cases h0 : t.size = 0
    · rw [if_pos h0, if_pos h0]
    rw [if_neg h0, if_neg h0]
    by_cases h1 : (t.get! 0).toNat < 128
    · rw [if_pos h1, if_pos h1]
      exact validN_fuel n m _ (by rw [Lib.ext_size]; omega) (by rw [Lib.ext_size]; omega)
    rw [if_neg h1, if_neg h1]
    by_cases h2 : leadV f lo hi t = 0
    · rw [if_pos h2, if_pos h2]
    · rw [if_neg h2, if_neg h2]
      exact validN_fuel n m _ (by rw [Lib.ext_size]; omega) (by rw [Lib.ext_size]; omega)
theorem validV_step {t : ByteArray} (h : 0 < t.size) : validV f lo hi t = if (t.get! 0).toNat < 128 then validV f lo hi (t.extract 1 t.size) else if leadV f lo hi t = 0 then false else validV f lo hi (t.extract (leadV f lo hi t) t.size) := by
  unfold validV
  obtain ⟨n, hn⟩ : ∃ n, t.size = n + 1 := ⟨t.size - 1, by omega⟩
  conv => lhs; rw [hn]
  conv => lhs; unfold validN
  rw [if_neg (by omega)]
  by_cases h1 : (t.get! 0).toNat < 128
  · rw [if_pos h1, if_pos h1]
    exact validN_fuel _ _ _ (by rw [Lib.ext_size]; omega) (Nat.le_refl _)
  rw [if_neg h1, if_neg h1]
  by_cases h2 : leadV f lo hi t = 0
  · rw [if_pos h2, if_pos h2]
  · rw [if_neg h2, if_neg h2]
    exact validN_fuel _ _ _ (by rw [Lib.ext_size]; omega) (Nat.le_refl _)
theorem validV_nil {t : ByteArray} (h : t.size = 0) : validV f lo hi t = true := by
  unfold validV
  rw [h]
  rfl
theorem ba_ext {a b : ByteArray} (h : a.data.toList = b.data.toList) : a = b := by
  obtain ⟨⟨x⟩⟩ := a
  obtain ⟨⟨y⟩⟩ := b
  simp at h
  rw [h]
theorem ext_ext (t : ByteArray) (i j : Nat) : (t.extract i t.size).extract j (t.extract i t.size).size = t.extract (i + j) t.size := by
  apply ba_ext
  rw [Lib.ext_list, Lib.ext_list, Lib.ext_list, List.drop_drop]
theorem validV_skip : ∀ (k : Nat) (t : ByteArray), Lib.Asc t k → validV f lo hi t = validV f lo hi (t.extract k t.size)
  | 0, t, _ => by
    have e : t.extract 0 t.size = t := ba_ext (by rw [Lib.ext_list]; rfl)
    rw [e]
  | k + 1, t, h => by
    by_cases h0 : t.size = 0
    · rw [validV_nil h0, validV_nil (by rw [Lib.ext_size]; omega)]
    · have hne : t.data.toList ≠ [] := fun e => h0 (by have : t.data.size = 0 := by rw [← Array.length_toList, e]; rfl
                                                       exact this)
      obtain ⟨b, r, hbr⟩ := List.exists_cons_of_ne_nil hne
      have hb : t.get! 0 = b := by
        have h1 := Lib.getD_get!' t 0
        rw [hbr] at h1
        simpa using h1.symm
      have h1 : (t.get! 0).toNat < 128 := by rw [hb]; exact h b (by rw [hbr]; simp)
      have h2 : Lib.Asc (t.extract 1 t.size) k := fun c hc => h c (by
        rw [Lib.ext_list, hbr] at hc
        rw [hbr]
        simp at hc ⊢
        exact .inr hc)
      rw [validV_step (by omega), if_pos h1, validV_skip k _ h2, ext_ext, Nat.add_comm]
end
end Tide
