/- What is written is read as the same: a number, a text, a list at the front. It walks nothing. -/
import Derived.Test.YtcmihmilkcihcaaDoorInI
namespace Go.Proofs.YtcmihmilkcihcaaDoor
open Go.RowKit Tide

theorem inNum_ok {n : Nat} (h : n < 2 ^ 62) (r : List UInt8) (most : Int) (hm : (n : Int) ≤ most) : inNum (num7 n ++ r) 0 most = (r, 0, n) := by
  have e := rd_num7 h r
  unfold inNum
  rw [if_neg (by simp), e]
  rw [if_neg (by simp), if_neg (by simp only; omega)]
  simp
theorem inText_ok {s : ByteArray} (h : s.size ≤ 300) (r : List UInt8) : inText (text7 s ++ r) 0 300 = (r, 0, s.data.toList) := by
  have e := inNum_ok (show s.size < 2 ^ 62 by omega) (s.data.toList ++ r) 300 (by omega)
  have hl : s.data.toList.length = s.size := by rw [Array.length_toList]; rfl
  unfold inText text7
  rw [List.append_assoc, e]
  simp only
  rw [if_neg (by simp), if_neg (by rw [List.length_append]; omega), ← hl]
  simp
theorem inMany_ok (r : List UInt8) : ∀ l : List Nat, (∀ n ∈ l, n < 2 ^ 62) → inMany l.length (l.flatMap num7 ++ r) 0 4611686018427387903 = (r, 0, l)
  | [], _ => rfl
  | n :: l, h => by
    have hn := h n (by simp)
    have e := inNum_ok hn (l.flatMap num7 ++ r) 4611686018427387903 (by omega)
    have ih := inMany_ok r l (fun m hm => h m (by simp [hm]))
    rw [List.flatMap_cons, List.append_assoc, List.length_cons]
    unfold inMany
    rw [e]
    simp only
    rw [if_neg (by simp), ih]
    simp
theorem inNums_ok {l : List Nat} (h : l.length ≤ 30) (hn : ∀ n ∈ l, n < 2 ^ 62) (r : List UInt8) : inNums (nums7 l ++ r) 0 30 4611686018427387903 = (r, 0, l) := by
  have e := inNum_ok (show l.length < 2 ^ 62 by omega) (l.flatMap num7 ++ r) 30 (by omega)
  unfold inNums nums7
  rw [List.append_assoc, e]
  simp only
  rw [if_neg (by simp)]
  exact inMany_ok r l hn
theorem inNum_err {e : Nat} (h : e ≠ 0) (l : List UInt8) (m : Int) : inNum l e m = (l, e, 0) := by unfold inNum; rw [if_pos h]
theorem inText_err {e : Nat} (h : e ≠ 0) (l : List UInt8) (m : Int) : inText l e m = (l, e, []) := by
  unfold inText
  rw [inNum_err h]
  simp only
  rw [if_pos h]
theorem inNums_err {e : Nat} (h : e ≠ 0) (l : List UInt8) (k m : Int) : inNums l e k m = (l, e, []) := by
  unfold inNums
  rw [inNum_err h]
  simp only
  rw [if_pos h]
theorem drop_flat (ds : List ItemD) (k : Nat) (h : k < ds.length) : (ds.drop k).flatMap encItem = encItem ds[k] ++ (ds.drop (k + 1)).flatMap encItem := by
  rw [List.drop_eq_getElem_cons h, List.flatMap_cons]
theorem flat_size {ds : List ItemD} (h : ∀ d ∈ ds, d.text.size ≤ 300 ∧ d.list.length ≤ 30) (ho : ds.all okItem = true) : (ds.flatMap encItem).length ≤ 400 * ds.length := by
  induction ds with
  | nil => simp
  | cons d ds ih =>
    rw [List.all_cons, Bool.and_eq_true] at ho
    rw [List.flatMap_cons, List.length_append, List.length_cons]
    have := enc_len (h d (by simp)).1 (h d (by simp)).2 ho.1
    have := ih (fun x hx => h x (by simp [hx])) ho.2
    omega
section
variable {a : Nat → Addr} {I : InP} {W W' : World} {F : Nat → Prop} {B p e : Nat} {l : List UInt8}
theorem InSpec.quiet (hI : InSpec a I) (h : I W F B p l e) (hb : Below W.heap.size W W') : I W' F B p l e := hI.keep _ _ _ (fun _ => False) _ _ _ _ h (Kept.of_below hb) (fun _ _ h => h) (fun _ h => h.elim)
end
end Go.Proofs.YtcmihmilkcihcaaDoor
