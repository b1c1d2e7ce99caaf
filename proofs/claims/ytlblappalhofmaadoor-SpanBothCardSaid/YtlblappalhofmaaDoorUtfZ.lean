/- Two rows gone over side by side: what the first pair that isn't the same tells of their order, and what lengths tell where all are the same. It speaks of no program. -/
import Derived.Test.YtlblappalhofmaaDoorUtfO
import Derived.Test.YtlblappalhofmaaDoorUtfN
namespace Tide.Utf
open Go

/-- The order of two numbers. -/
def cmpI (x y : Int) : Int := if x < y then -1 else if y < x then 1 else 0
theorem cmpI_add (a x y : Int) : cmpI (a + x) (a + y) = cmpI x y := by
  unfold cmpI
  repeat' split
  all_goals omega
theorem enc_pos (c : Nat) : 1 ≤ (enc c).length := by
  obtain ⟨a, l, h⟩ := enc_ne_nil c
  rw [h]; simp
theorem cmp_zip_ne : ∀ (l m : List Nat) (init : List (Nat × Nat)) (x y : Nat), init ++ [(x, y)] <+: l.zip m → (∀ p ∈ init, p.1 = p.2) → x ≠ y → cmp l m = cmpI x y
  | [], m, init, x, y, h, _, _ => by
    have := h.length_le
    simp at this
  | _ :: _, [], init, x, y, h, _, _ => by
    have := h.length_le
    simp at this
  | a :: l, b :: m, [], x, y, h, _, hne => by
    obtain ⟨r, hr⟩ := h
    simp at hr
    obtain ⟨⟨h1, h2⟩, _⟩ := hr
    subst h1 h2
    unfold cmp cmpI
    repeat' split
    all_goals first | rfl | omega
  | a :: l, b :: m, (p, q) :: init, x, y, h, hp, hne => by
    obtain ⟨r, hr⟩ := h
    simp at hr
    obtain ⟨⟨h1, h2⟩, h3⟩ := hr
    have e : p = q := hp (p, q) (by simp)
    have ih := cmp_zip_ne l m init x y ⟨r, by simpa using h3⟩ (fun z hz => hp z (by simp [hz])) hne
    have hab : a = b := by omega
    unfold cmp
    rw [if_neg (by omega), if_neg (by omega)]
    exact ih
theorem cmp_zip_eq : ∀ (l m : List Nat), (∀ p ∈ l.zip m, p.1 = p.2) → cmp l m = cmpI (textOf l).length (textOf m).length
  | [], [], _ => rfl
  | [], b :: m, _ => by
    have e : textOf (b :: m) = enc b ++ textOf m := by simp [textOf]
    have := enc_pos b
    unfold cmp cmpI
    rw [e, List.length_append, if_pos (by simp [textOf]; omega)]
  | a :: l, [], _ => by
    have e : textOf (a :: l) = enc a ++ textOf l := by simp [textOf]
    have := enc_pos a
    unfold cmp cmpI
    rw [e, List.length_append, if_neg (by simp [textOf]; omega), if_pos (by simp [textOf]; omega)]
  | a :: l, b :: m, h => by
    have hab : a = b := h (a, b) (by simp)
    have ih := cmp_zip_eq l m (fun z hz => h z (by simp [hz]))
    have e : textOf (a :: l) = enc a ++ textOf l := by simp [textOf]
    have e2 : textOf (b :: m) = enc b ++ textOf m := by simp [textOf]
    subst hab
    unfold cmp
    rw [if_neg (by omega), if_neg (by omega), ih, e, e2, List.length_append, List.length_append]
    push_cast
    rw [cmpI_add]
/-- How many runes two rows begin with alike. -/
def common : List Nat → List Nat → Nat
  | a :: l, b :: m => if a = b then common l m + 1 else 0
  | _, _ => 0
theorem common_ne : ∀ (l m : List Nat) (init : List (Nat × Nat)) (x y : Nat), init ++ [(x, y)] <+: l.zip m → (∀ p ∈ init, p.1 = p.2) → x ≠ y → common l m = init.length
  | [], m, init, x, y, h, _, _ => by
    have := h.length_le
    simp at this
  | _ :: _, [], init, x, y, h, _, _ => by
    have := h.length_le
    simp at this
  | a :: l, b :: m, [], x, y, h, _, hne => by
    obtain ⟨r, hr⟩ := h
    simp at hr
    obtain ⟨⟨h1, h2⟩, _⟩ := hr
    subst h1 h2
    unfold common
    rw [if_neg hne]; rfl
  | a :: l, b :: m, (p, q) :: init, x, y, h, hp, hne => by
    obtain ⟨r, hr⟩ := h
    simp at hr
    obtain ⟨⟨h1, h2⟩, h3⟩ := hr
    have e : p = q := hp (p, q) (by simp)
    have ih := common_ne l m init x y ⟨r, by simpa using h3⟩ (fun z hz => hp z (by simp [hz])) hne
    unfold common
    rw [if_pos (by omega), ih, List.length_cons]
theorem common_eq : ∀ (l m : List Nat), (∀ p ∈ l.zip m, p.1 = p.2) → common l m = (l.zip m).length
  | [], [], _ => rfl
  | [], _ :: _, _ => rfl
  | _ :: _, [], _ => rfl
  | a :: l, b :: m, h => by
    have hab : a = b := h (a, b) (by simp)
    have ih := common_eq l m (fun z hz => h z (by simp [hz]))
    unfold common
    rw [if_pos hab, ih]; simp
theorem common_le (l m : List Nat) : common l m ≤ l.length ∧ common l m ≤ m.length := by
  induction l generalizing m with
  | nil => cases m <;> simp [common]
  | cons a l ih =>
    cases m with
    | nil => simp [common]
    | cons b m =>
      have := ih m
      unfold common
      split <;> simp <;> omega
end Tide.Utf
