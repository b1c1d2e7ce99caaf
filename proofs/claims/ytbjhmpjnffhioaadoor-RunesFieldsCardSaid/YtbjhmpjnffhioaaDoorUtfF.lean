/- A text's parts between blanks, over bytes and over runes. It speaks of no program. -/
import Derived.Test.YtbjhmpjnffhioaaDoorUtfR
import Derived.Lib.Bytealg
namespace Tide.Utf
open Go

/-- The parts of bytes between blanks, the first of which begins with some that have been read. -/
def splitB (part : List UInt8) : List UInt8 → List (List UInt8)
  | [] => [part]
  | b :: r => if b = 32 then part :: splitB [] r else splitB (part ++ [b]) r
/-- The parts of runes between blanks. -/
def splitN (part : List Nat) : List Nat → List (List Nat)
  | [] => [part]
  | c :: r => if c = 32 then part :: splitN [] r else splitN (part ++ [c]) r
theorem splitB_none : ∀ (l part : List UInt8), Lib.indexByte l 32 < 0 → splitB part l = [part ++ l]
  | [], part, _ => by simp [splitB]
  | b :: l, part, h => by
    unfold Lib.indexByte at h
    by_cases hb : b = 32
    · subst hb; simp at h
    · have hb' : (b == 32) = false := by rw [beq_eq_false_iff_ne]; exact hb
      rw [hb'] at h
      have hge := Lib.indexByte_ge l 32
      have h2 : Lib.indexByte l 32 < 0 := by
        by_cases e : Lib.indexByte l 32 = -1
        · omega
        · have e' : (Lib.indexByte l 32 == -1) = false := by rw [beq_eq_false_iff_ne]; exact e
          rw [e'] at h
          simp at h
          omega
      unfold splitB
      rw [if_neg hb, splitB_none l _ h2]
      simp
theorem splitB_some : ∀ (l part : List UInt8) (i : Nat), Lib.indexByte l 32 = (i : Int) → i < l.length ∧ splitB part l = (part ++ l.take i) :: splitB [] (l.drop (i + 1))
  | [], part, i, h => by
    have : (-1 : Int) = (i : Int) := h
    omega
  | b :: l, part, i, h => by
    unfold Lib.indexByte at h
    by_cases hb : b = 32
    · subst hb
      have hi : i = 0 := by simp at h; omega
      subst hi
      simp [splitB]
    · have hb' : (b == 32) = false := by rw [beq_eq_false_iff_ne]; exact hb
      rw [hb'] at h
      have hge := Lib.indexByte_ge l 32
      by_cases e : Lib.indexByte l 32 = -1
      · rw [e] at h
        have : (-1 : Int) = (i : Int) := h
        omega
      · have e' : (Lib.indexByte l 32 == -1) = false := by rw [beq_eq_false_iff_ne]; exact e
        rw [e'] at h
        simp at h
        obtain ⟨j, hj⟩ : ∃ j : Nat, i = j + 1 := ⟨i - 1, by omega⟩
        subst hj
        obtain ⟨h1, h2⟩ := splitB_some l (part ++ [b]) j (by push_cast at h; omega)
        refine ⟨by rw [List.length_cons]; omega, ?_⟩
        show (if b = 32 then part :: splitB [] l else splitB (part ++ [b]) l) = _
        rw [if_neg hb, h2, List.take_succ_cons, List.drop_succ_cons, List.append_assoc]
        rfl
theorem splitB_len : ∀ (l part : List UInt8), (splitB part l).length ≤ l.length + 1
  | [], part => by simp [splitB]
  | b :: l, part => by
    unfold splitB
    split
    · have := splitB_len l []
      simp; omega
    · have := splitB_len l (part ++ [b])
      simp; omega
/-- No rune but a blank has a blank's byte. -/
theorem enc_blank {c : Nat} (hc : c ≠ 32) (hm : c ≤ 1114111) : ∀ b ∈ enc c, b ≠ 32 := by
  have key : ∀ n, n < 256 → n ≠ 32 → UInt8.ofNat n ≠ 32 := fun n h h2 e => by
    have := congrArg UInt8.toNat e
    rw [u8n n h] at this
    exact h2 this
  intro b hb
  unfold enc at hb
  split at hb
  · simp only [List.mem_cons, List.not_mem_nil, or_false] at hb
    rw [hb]; exact key _ (by omega) hc
  split at hb
  · simp only [List.mem_cons, List.not_mem_nil, or_false] at hb
    rcases hb with hb | hb <;> (rw [hb]; exact key _ (by omega) (by omega))
  split at hb
  · simp only [List.mem_cons, List.not_mem_nil, or_false] at hb
    rcases hb with hb | hb | hb <;> (rw [hb]; exact key _ (by omega) (by omega))
  · simp only [List.mem_cons, List.not_mem_nil, or_false] at hb
    rcases hb with hb | hb | hb | hb <;> (rw [hb]; exact key _ (by omega) (by omega))
theorem splitB_app : ∀ (u part r : List UInt8), (∀ b ∈ u, b ≠ 32) → splitB part (u ++ r) = splitB (part ++ u) r
  | [], part, r, _ => by simp
  | b :: u, part, r, h => by
    rw [List.cons_append]
    conv => lhs; unfold splitB
    rw [if_neg (h b (by simp)), splitB_app u _ r (fun d hd => h d (by simp [hd]))]
    simp
theorem split_text : ∀ (l part : List Nat), (∀ c ∈ l, c ≤ 1114111) → splitB (textOf part) (textOf l) = (splitN part l).map textOf
  | [], part, _ => by simp [splitN, textOf, splitB]
  | c :: l, part, h => by
    have e : textOf (c :: l) = enc c ++ textOf l := by simp [textOf]
    rw [e]
    by_cases hc : c = 32
    · subst hc
      have e2 : enc 32 = [32] := rfl
      have ih := split_text l [] (fun d hd => h d (by simp [hd]))
      rw [e2]
      show (if (32 : UInt8) = 32 then textOf part :: splitB [] (textOf l) else _) = _
      rw [if_pos rfl]
      unfold splitN
      rw [if_pos rfl, List.map_cons, ← ih]
      rfl
    · rw [splitB_app _ _ _ (enc_blank hc (h c (by simp)))]
      unfold splitN
      rw [if_neg hc, ← split_text l (part ++ [c]) (fun d hd => h d (by simp [hd])), textOf_append, textOf_one]
theorem textOf_nil_iff (p : List Nat) : textOf p = [] ↔ p = [] := by
  constructor
  · intro h
    cases p with
    | nil => rfl
    | cons c p =>
      obtain ⟨a, u, he⟩ := enc_ne_nil c
      have e : textOf (c :: p) = enc c ++ textOf p := by simp [textOf]
      rw [e, he] at h
      cases h
  · intro h; rw [h]; rfl
/-- A text's parts between blanks, without empty ones. -/
def fieldsOf (l : List Nat) : List (List Nat) := (splitN [] l).filter fun p => !p.isEmpty
theorem fields_bytes {s : ByteArray} {l : List Nat} (h : runes s 0 = some l) : (splitB [] s.data.toList).filter (fun p => !p.isEmpty) = (fieldsOf l).map textOf := by
  have e := split_text l [] (fun c hc => (runes_of h c hc).1)
  have e0 : textOf ([] : List Nat) = [] := rfl
  rw [e0] at e
  rw [text_of h, e, List.filter_map]
  unfold fieldsOf
  congr 1
  apply List.filter_congr
  intro p _
  show (!(textOf p).isEmpty) = !p.isEmpty
  cases hp : p.isEmpty with
  | true =>
    have : p = [] := by simpa using hp
    rw [this]; rfl
  | false =>
    have : p ≠ [] := by intro e; rw [e] at hp; cases hp
    cases ht : (textOf p).isEmpty with
    | true => exact absurd ((textOf_nil_iff p).1 (by simpa using ht)) this
    | false => rfl
theorem splitN_len : ∀ (l part : List Nat), (splitN part l).length ≤ l.length + 1
  | [], part => by simp [splitN]
  | b :: l, part => by
    unfold splitN
    split
    · have := splitN_len l []
      simp; omega
    · have := splitN_len l (part ++ [b])
      simp; omega
end Tide.Utf
