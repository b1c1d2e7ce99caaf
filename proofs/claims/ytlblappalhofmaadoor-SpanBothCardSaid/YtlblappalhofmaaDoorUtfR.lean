/- What is written is read: a row of runes that may be, written as bytes, reads as the row. It speaks of no program. -/
import Derived.Test.YtlblappalhofmaaDoorUtfN
import Derived.Test.YtlblappalhofmaaDoorUtfO
namespace Tide.Utf
open Go

theorem at_of_drop {s : ByteArray} {i : Nat} {b : UInt8} {r : List UInt8} (h : s.data.toList.drop i = b :: r) : i < s.size ∧ at' s i = b.toNat ∧ s.data.toList.drop (i + 1) = r := by
  have hl : i < s.data.toList.length := by
    rcases Nat.lt_or_ge i s.data.toList.length with h' | h'
    · exact h'
    · rw [List.drop_of_length_le h'] at h; cases h
  have hi : i < s.size := by simpa using hl
  rw [List.drop_eq_getElem_cons hl] at h
  have e1 := (List.cons.inj h).1
  refine ⟨hi, ?_, (List.cons.inj h).2⟩
  rw [← at_get s i hi, ← e1]
  congr 1
theorem u8n (n : Nat) (h : n < 256) : (UInt8.ofNat n).toNat = n := UInt8.toNat_ofNat_of_lt' h
/-- A rune that may be. -/
def Rune (c : Nat) : Prop := c ≤ 1114111 ∧ ¬ (55296 ≤ c ∧ c ≤ 57343)
theorem one_enc {s : ByteArray} {i c : Nat} {r : List UInt8} (hc : Rune c) (h : s.data.toList.drop i = enc c ++ r) :
    i < s.size ∧ one s i = some (c, (enc c).length) ∧ s.data.toList.drop (i + (enc c).length) = r := by
  obtain ⟨hm, hsur⟩ := hc
  unfold enc at h ⊢
  by_cases h1 : c < 128
  · simp only [if_pos h1, List.cons_append, List.nil_append, List.length_cons, List.length_nil] at h ⊢
    obtain ⟨g0, g1, g2⟩ := at_of_drop h
    rw [u8n _ (by omega)] at g1
    exact ⟨g0, by rw [one1 s i (by omega), g1], g2⟩
  by_cases h2 : c < 2048
  · simp only [if_neg h1, if_pos h2, List.cons_append, List.nil_append, List.length_cons, List.length_nil] at h ⊢
    obtain ⟨g0, g1, g2⟩ := at_of_drop h
    obtain ⟨k0, k1, k2⟩ := at_of_drop g2
    rw [u8n _ (by omega)] at g1 k1
    refine ⟨g0, ?_, k2⟩
    rw [one2 s i (by omega) (by omega), if_pos ⟨⟨k0, by omega⟩, by omega⟩, show (at' s i - 192) * 64 + at' s (i + 1) - 128 = c by omega]
  by_cases h3 : c < 65536
  · simp only [if_neg h1, if_neg h2, if_pos h3, List.cons_append, List.nil_append, List.length_cons, List.length_nil] at h ⊢
    obtain ⟨g0, g1, g2⟩ := at_of_drop h
    obtain ⟨k0, k1, k2⟩ := at_of_drop g2
    obtain ⟨m0, m1, m2⟩ := at_of_drop k2
    rw [u8n _ (by omega)] at g1 k1 m1
    refine ⟨g0, ?_, m2⟩
    rw [one3 s i c (by omega) (by omega) (by rw [g1, k1, show i + 2 = i + 1 + 1 from rfl, m1]; omega), if_pos ⟨⟨⟨k0, by omega⟩, ⟨m0, by rw [show i + 2 = i + 1 + 1 from rfl, m1]; omega⟩⟩, by omega, hm, hsur⟩]
  · simp only [if_neg h1, if_neg h2, if_neg h3, List.cons_append, List.nil_append, List.length_cons, List.length_nil] at h ⊢
    obtain ⟨g0, g1, g2⟩ := at_of_drop h
    obtain ⟨k0, k1, k2⟩ := at_of_drop g2
    obtain ⟨m0, m1, m2⟩ := at_of_drop k2
    obtain ⟨n0, n1, n2⟩ := at_of_drop m2
    rw [u8n _ (by omega)] at g1 k1 m1 n1
    refine ⟨g0, ?_, n2⟩
    rw [one4 s i c (by omega) (by omega) (by rw [g1, k1, show i + 2 = i + 1 + 1 from rfl, m1, show i + 3 = i + 1 + 1 + 1 from rfl, n1]; omega), if_pos ⟨⟨⟨k0, by omega⟩, ⟨m0, by rw [show i + 2 = i + 1 + 1 from rfl, m1]; omega⟩, ⟨n0, by rw [show i + 3 = i + 1 + 1 + 1 from rfl, n1]; omega⟩⟩, by omega, hm, hsur⟩]
theorem runes_at (s : ByteArray) : ∀ (m : List Nat) (i : Nat), (∀ c ∈ m, Rune c) → s.data.toList.drop i = textOf m → runes s i = some m
  | [], i, _, h => by
    apply runes_end
    have := congrArg List.length h
    rw [List.length_drop] at this
    simp [textOf] at this
    omega
  | c :: m, i, hm, h => by
    have e : textOf (c :: m) = enc c ++ textOf m := by simp [textOf]
    rw [e] at h
    obtain ⟨h1, h2, h3⟩ := one_enc (hm c (by simp)) h
    rw [runes_some h1 h2, runes_at s m _ (fun d hd => hm d (by simp [hd])) h3]
    rfl
theorem runes_txt {m : List Nat} (h : ∀ c ∈ m, Rune c) : runes (txt m) 0 = some m := runes_at _ m 0 h rfl
theorem runes_of {s : ByteArray} {l : List Nat} (h : runes s 0 = some l) : ∀ c ∈ l, Rune c := bound_of h

/-- The row behind is one of runes. -/
theorem afterAt_rune (l : List Nat) (hl : ∀ c ∈ l, Rune c) : ∀ k m, k ≤ l.length → afterAt l k = some m → ∀ c ∈ m, Rune c
  | 0, m, _, h => by cases h
  | k + 1, m, hk, h => by
    unfold afterAt at h
    split at h
    · exact afterAt_rune l hl k m (by omega) h
    · rename_i hne
      have e := Option.some.inj h
      rw [← e]
      intro c hc
      have hmem : l.getD k 0 ∈ l := by
        rw [List.getD_eq_getElem?_getD, List.getElem?_eq_getElem (by omega)]; exact List.getElem_mem _
      have hr := hl _ hmem
      rcases List.mem_append.1 hc with hc | hc
      · exact hl c (List.mem_of_mem_take hc)
      · simp at hc
        rw [hc]
        exact nxt_valid hr.1 hr.2 hne
theorem after_rune {l m : List Nat} (hl : ∀ c ∈ l, Rune c) (h : after l = some m) : ∀ c ∈ m, Rune c := afterAt_rune l hl _ m (Nat.le_refl _) h
/-- All that begins with a text is less than the text behind. -/
theorem afterAt_less (l : List Nat) (hl : ∀ c ∈ l, Rune c) (u : List UInt8) : ∀ k m, k ≤ l.length → afterAt l k = some m → Op.bytesLess (textOf l ++ u) (textOf m) = true
  | 0, m, _, h => by cases h
  | k + 1, m, hk, h => by
    unfold afterAt at h
    split at h
    · exact afterAt_less l hl u k m (by omega) h
    · rename_i hne
      have e := Option.some.inj h
      have hmem : l.getD k 0 ∈ l := by
        rw [List.getD_eq_getElem?_getD, List.getElem?_eq_getElem (by omega)]; exact List.getElem_mem _
      have hr := hl _ hmem
      have hlk : l = l.take k ++ (l.getD k 0 :: l.drop (k + 1)) := by
        have hg : l.getD k 0 = l[k] := by rw [List.getD_eq_getElem?_getD, List.getElem?_eq_getElem (by omega)]; rfl
        rw [hg, ← List.drop_eq_getElem_cons (by omega), List.take_append_drop]
      have e1 : textOf l = textOf (l.take k) ++ (enc (l.getD k 0) ++ textOf (l.drop (k + 1))) := by
        conv => lhs; rw [hlk]
        rw [textOf_append]; simp [textOf]
      have e2 : textOf m = textOf (l.take k) ++ (enc (nxt (l.getD k 0)) ++ []) := by
        rw [← e, textOf_append, textOf_one, List.append_nil]
      have hlt : l.getD k 0 < nxt (l.getD k 0) := by unfold nxt; split <;> omega
      rw [e1, e2, List.append_assoc, List.append_assoc, less_same]
      exact enc_less (nxt_valid hr.1 hr.2 hne).1 hlt _ _
theorem after_less {l m : List Nat} (hl : ∀ c ∈ l, Rune c) (h : after l = some m) (u : List UInt8) : Op.bytesLess (textOf l ++ u) (textOf m) = true := afterAt_less l hl u _ m (Nat.le_refl _) h
theorem afterAt_len (l : List Nat) : ∀ k m, k ≤ l.length → afterAt l k = some m → m.length ≤ l.length
  | 0, m, _, h => by cases h
  | k + 1, m, hk, h => by
    unfold afterAt at h
    split at h
    · exact afterAt_len l k m (by omega) h
    · rw [← Option.some.inj h, List.length_append, List.length_take]
      simp
      omega
theorem after_len {l m : List Nat} (h : after l = some m) : m.length ≤ l.length := afterAt_len l _ m (Nat.le_refl _) h
end Tide.Utf
