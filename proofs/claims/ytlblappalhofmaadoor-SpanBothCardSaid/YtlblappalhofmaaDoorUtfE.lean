/- UTF-8 the other way: the bytes of a rune's number; what has been read is just these bytes. It speaks of no program. -/
import Derived.Test.YtlblappalhofmaaDoorUtf
namespace Tide.Utf
open Go

/-- A rune's bytes. -/
def enc (c : Nat) : List UInt8 :=
  if c < 128 then [UInt8.ofNat c]
  else if c < 2048 then [UInt8.ofNat (192 + c / 64), UInt8.ofNat (128 + c % 64)]
  else if c < 65536 then [UInt8.ofNat (224 + c / 4096), UInt8.ofNat (128 + c / 64 % 64), UInt8.ofNat (128 + c % 64)]
  else [UInt8.ofNat (240 + c / 262144), UInt8.ofNat (128 + c / 4096 % 64), UInt8.ofNat (128 + c / 64 % 64), UInt8.ofNat (128 + c % 64)]
/-- A row of runes' bytes. -/
def textOf (l : List Nat) : List UInt8 := l.flatMap enc
theorem textOf_append (a b : List Nat) : textOf (a ++ b) = textOf a ++ textOf b := by simp [textOf]
theorem textOf_one (c : Nat) : textOf [c] = enc c := by simp [textOf]

theorem byte_at (s : ByteArray) (i : Nat) (h : i < s.size) : s.data.toList[i]? = some (UInt8.ofNat (at' s i)) := by
  have hl : i < s.data.toList.length := by simpa using h
  rw [List.getElem?_eq_getElem hl]
  congr 1
  have := at_get s i h
  rw [← this]
  simp
  rfl
theorem win_cons (s : ByteArray) (i n : Nat) (h : i < s.size) : (s.data.toList.drop i).take (n + 1) = UInt8.ofNat (at' s i) :: (s.data.toList.drop (i + 1)).take n := by
  have hl : i < s.data.toList.length := by simpa using h
  rw [List.drop_eq_getElem_cons hl, List.take_succ_cons]
  have := byte_at s i h
  rw [List.getElem?_eq_getElem hl] at this
  injection this with this
  rw [this]
theorem win_zero (s : ByteArray) (i : Nat) : (s.data.toList.drop i).take 0 = [] := rfl

theorem enc_one {s : ByteArray} {i c n : Nat} (hi : i < s.size) (h : one s i = some (c, n)) : (s.data.toList.drop i).take n = enc c := by
  have hb := at_lt s i
  rcases Nat.lt_or_ge (at' s i) 128 with h0 | h0
  · rw [one1 s i h0] at h
    injection h with h
    injection h with h1 h2
    subst h1 h2
    rw [win_cons s i 0 hi, win_zero]
    unfold enc
    rw [if_pos h0]
  rcases Nat.lt_or_ge (at' s i) 192 with h1 | h1
  · rw [one0 s i h0 (.inl h1)] at h; cases h
  rcases Nat.lt_or_ge (at' s i) 224 with h2 | h2
  · rw [one2 s i h1 h2] at h
    split at h
    · rename_i hk
      have k1 := hk.1.1
      have k2 := hk.1.2
      have e1 := (Prod.mk.inj (Option.some.inj h)).1
      have e2 := (Prod.mk.inj (Option.some.inj h)).2
      rw [← e2, win_cons s i 1 hi, win_cons s (i + 1) 0 k1, win_zero]
      unfold enc
      rw [if_neg (by omega), if_pos (by omega), show 192 + c / 64 = at' s i by omega, show 128 + c % 64 = at' s (i + 1) by omega]
    · cases h
  rcases Nat.lt_or_ge (at' s i) 240 with h3 | h3
  · rw [one3 s i _ h2 h3 rfl] at h
    split at h
    · rename_i hk
      have k1 := hk.1.1.2
      have k2 := hk.1.2.1
      have k3 := hk.1.2.2
      have e1 := (Prod.mk.inj (Option.some.inj h)).1
      have e2 := (Prod.mk.inj (Option.some.inj h)).2
      rw [← e2, win_cons s i 2 hi, win_cons s (i + 1) 1 (by omega), win_cons s (i + 1 + 1) 0 k2, win_zero, show i + 1 + 1 = i + 2 from rfl]
      unfold enc
      rw [if_neg (by omega), if_neg (by omega), if_pos (by omega), show 224 + c / 4096 = at' s i by omega, show 128 + c / 64 % 64 = at' s (i + 1) by omega, show 128 + c % 64 = at' s (i + 2) by omega]
    · cases h
  rcases Nat.lt_or_ge (at' s i) 248 with h4 | h4
  · rw [one4 s i _ h3 h4 rfl] at h
    split at h
    · rename_i hk
      have k1 := hk.1.1.2
      have k2 := hk.1.2.1.2
      have k3 := hk.1.2.2.1
      have k4 := hk.1.2.2.2
      have e1 := (Prod.mk.inj (Option.some.inj h)).1
      have e2 := (Prod.mk.inj (Option.some.inj h)).2
      rw [← e2, win_cons s i 3 hi, win_cons s (i + 1) 2 (by omega), win_cons s (i + 1 + 1) 1 (by omega), win_cons s (i + 1 + 1 + 1) 0 k3, win_zero, show i + 1 + 1 + 1 = i + 3 from rfl, show i + 1 + 1 = i + 2 from rfl]
      unfold enc
      rw [if_neg (by omega), if_neg (by omega), if_neg (by omega), show 240 + c / 262144 = at' s i by omega, show 128 + c / 4096 % 64 = at' s (i + 1) by omega, show 128 + c / 64 % 64 = at' s (i + 2) by omega, show 128 + c % 64 = at' s (i + 3) by omega]
    · cases h
  · rw [one0 s i h0 (.inr h4)] at h; cases h

/-- A right text is its runes' bytes. -/
theorem runes_text (s : ByteArray) : ∀ (l : List Nat) (i : Nat), i ≤ s.size → runes s i = some l → s.data.toList.drop i = textOf l
  | l, i, hi, h => by
    rcases Nat.lt_or_ge i s.size with hlt | hge
    · cases ho : one s i with
      | none => rw [runes_none hlt ho] at h; cases h
      | some x =>
        obtain ⟨c, n⟩ := x
        have h1 := one_some hlt ho
        rw [runes_some hlt ho] at h
        cases hr : runes s (i + n) with
        | none => rw [hr] at h; cases h
        | some l' =>
          rw [hr] at h
          injection h with h
          subst h
          have ih := runes_text s l' (i + n) h1.2.2.1 hr
          show _ = textOf ([c] ++ l')
          rw [textOf_append, textOf_one, ← enc_one hlt ho, ← ih, ← List.drop_drop, List.take_append_drop]
    · rw [runes_end hge] at h
      injection h with h
      subst h
      rw [List.drop_of_length_le (by simpa using hge)]
      rfl
  termination_by _ i _ _ => s.size - i
end Tide.Utf
