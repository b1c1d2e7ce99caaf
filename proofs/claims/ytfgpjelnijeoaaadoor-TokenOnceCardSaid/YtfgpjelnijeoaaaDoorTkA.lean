/- Rows of whole numbers: the document's right and newest of streams and addresses; a row copied. Not tied to package token's code. -/
import Derived.Test.YtfgpjelnijeoaaaDoorPlS
import Derived.Test.YtfgpjelnijeoaaaDoorPush
import Derived.Test.YtfgpjelnijeoaaaDoorKeep
import Derived.WalkKit
import Derived.WalkSpells
import Derived.Deep.QuietTactic
import Derived.BigQuiet
namespace Go.Proofs.YtfgpjelnijeoaaaDoor
open Go Go.RowKit Tide

/-- Streams: right, and rising. -/
def upB (l : List Int) : Bool := decide (∀ i, ∀ h : i < l.length, 0 ≤ l[i] ∧ l[i] ≤ 12 ∧ (0 < i → l[i - 1]'(by omega) < l[i]))
theorem upB_no {l : List Int} {k : Nat} (h : k < l.length) (hn : ¬ (0 ≤ l[k] ∧ l[k] ≤ 12 ∧ (0 < k → l[k - 1]'(by omega) < l[k]))) : upB l = false := decide_eq_false fun e => hn (e k h)
theorem upB_mem {l : List Int} (h : upB l = true) : ∀ x ∈ l, 0 ≤ x ∧ x ≤ 12 := by
  intro x hx
  obtain ⟨i, hi, rfl⟩ := List.getElem_of_mem hx
  have := of_decide_eq_true h i hi
  exact ⟨this.1, this.2.1⟩

set_option maxHeartbeats 1000000 in
theorem right13_any (l : List Int) (v : Value) (B : Nat) (w : World) (hv : Row w B v (int64s l)) :
    Calls Tryd.prog 22 #[v] w fun e w' => e = .returned (.bool (upB l)) ∧ w = w' := by
  obtain ⟨hl, A, c, rfl, hc⟩ := row_ints hv
  have HC := Lib.hid hc
  clear hv hc
  go_enter Tryd.func22, Tryd.ntmps22
  go_wp2_with fail
  go_loop [7] (fun i => ∃ k : Nat, i = .int .i64 k ∧ k ≤ l.length ∧ Hid (∀ i, ∀ h : i < l.length, i < k → 0 ≤ l[i] ∧ l[i] ≤ 12 ∧ (0 < i → l[i - 1]'(by omega) < l[i]))) (fun i => l.length - (intOf i).toNat)
  case atStart => exact ⟨0, rfl, Nat.zero_le _, Lib.hid (fun i h h0 => absurd h0 (Nat.not_lt_zero _))⟩
  case round =>
    obtain ⟨k, rfl, hk, hS⟩ := hrel
    by_cases hlt : k < l.length
    · obtain ⟨b, o, rfl, hbl, hcu⟩ := HC.out k hlt
      have i1 : (k : Int) < (l.length : Int) := by omega
      have HN := Lib.hid (show ¬ (0 ≤ l[k] ∧ l[k] ≤ 12 ∧ (0 < k → l[k - 1]'(by omega) < l[k])) → upB l = false from upB_no hlt)
      have HY := Lib.hid (show (0 ≤ l[k] ∧ l[k] ≤ 12 ∧ (0 < k → l[k - 1]'(by omega) < l[k])) → (∀ i, ∀ h : i < l.length, i < k + 1 → 0 ≤ l[i] ∧ l[i] ≤ 12 ∧ (0 < i → l[i - 1]'(by omega) < l[i])) from fun h i hi h1 => by
        rcases Nat.lt_or_ge i k with h2 | h2
        · exact hS.out i hi h2
        · obtain rfl : i = k := by omega
          exact h)
      by_cases hz : k = 0
      · subst hz
        have hcu0 : w.cell? ⟨b, o, none⟩ = some (.int .i64 l[0]) := hcu
        clear hcu
        generalize l[0] = y at *
        have z0 : ¬ ((0 : Int) < ((0 : Nat) : Int)) := by omega
        by_cases h1 : y < 0
        · have HR := Lib.hid (HN.out (by omega))
          go_wp2_with fail
          go_ret
          exact ⟨by rw [HR.out] <;> rfl, rfl⟩
        · by_cases h2 : 12 < y
          · have HR := Lib.hid (HN.out (by omega))
            go_wp2_with fail
            go_ret
            exact ⟨by rw [HR.out] <;> rfl, rfl⟩
          · have HR := Lib.hid (HY.out ⟨by omega, by omega, by omega⟩)
            go_wp2_with fail
            go_round
            case rel => exact ⟨0 + 1, by go_num, by omega, HR⟩
            case measure => simp [intOf]; omega
      · obtain ⟨b', o', e, _, hcp⟩ := HC.out (k - 1) (by omega)
        injection e with e
        injection e with e1 e2
        subst e1 e2
        generalize l[k - 1]'(by omega) = p at *
        generalize l[k] = y at *
        have z0 : (0 : Int) < (k : Int) := by omega
        have z1 : (k : Int) - 1 < (l.length : Int) := by omega
        by_cases h1 : y < 0
        · have HR := Lib.hid (HN.out (by omega))
          go_wp2_with fail
          go_ret
          exact ⟨by rw [HR.out] <;> rfl, rfl⟩
        · by_cases h2 : 12 < y
          · have HR := Lib.hid (HN.out (by omega))
            go_wp2_with fail
            go_ret
            exact ⟨by rw [HR.out] <;> rfl, rfl⟩
          · by_cases h3 : y ≤ p
            · have HR := Lib.hid (HN.out (by omega))
              go_wp2_with fail
              go_ret
              exact ⟨by rw [HR.out] <;> rfl, rfl⟩
            · have HR := Lib.hid (HY.out ⟨by omega, by omega, by omega⟩)
              go_wp2_with fail
              go_round
              case rel => exact ⟨k + 1, by go_num, by omega, HR⟩
              case measure => simp [intOf]; omega
    · have HR := Lib.hid (show upB l = true from decide_eq_true (fun i h => hS.out i h (by omega)))
      go_wp2_with fail
      go_ret
      exact ⟨by rw [HR.out] <;> rfl, rfl⟩

theorem row_top {w : World} {B : Nat} {A : Option Addr} {n c : Nat} {xs : List Value} (h : Row w B (.slice A n c) xs) {k : Nat} (hk : k ≤ xs.length) : Row w B (.slice A k c) (xs.take k) := by
  obtain ⟨hn, A0, c0, he, h1, h2, hb⟩ := h
  injection he with e1 e2 e3
  subst e1 e2 e3
  have e : (xs.take k).length = k := by rw [List.length_take]; omega
  refine ⟨by omega, A, c, by rw [e], by omega, h2, fun hne => ?_⟩
  obtain ⟨b, o, e1, hB, hcell⟩ := hb (by intro e; subst e; simp at hne)
  refine ⟨b, o, e1, hB, fun j u hu => hcell j u ?_⟩
  have hj := (List.getElem?_eq_some_iff.1 hu).1
  rw [← hu, List.getElem?_take_of_lt (by omega)]
/-- append([]int{}, l...): a copy of the call's own. -/
theorem wpList_copy {ops : Array Oper} {rest : List Oper} {o : Oper} {a : Act} {Q : Exit → Act → World → Prop} (hgd : o.guard = none) (s y : Operand) (ho : o.op = .call { callee := .builtin .append, args := #[s, y], argTypes := #[37, 37] })
    {W : World} {base : Nat} {l : List Int} {v : Value} {B : Nat} (hs : a.eval s = .slice (some ⟨W.heap.size, 0, none⟩) 0 0) (hy : a.eval y = v) (hr : Row W B v (int64s l)) (hB : B ≤ W.heap.size) (hl : l.length ≤ 1000000) (hb : base ≤ W.heap.size)
    (h : ∀ v' w', Own w' base v' l → Below W.heap.size W w' → wpList Tryd.prog ops Q rest (a.put o.dst v') w') : wpList Tryd.prog ops Q (o :: rest) a (W.alloc (.cells #[] 3)) := by
  obtain ⟨i0, hi, hz0, hz1, hz2⟩ := info_parts infoInt
  have hr' := hr.keep (below_cells (((Below.refl W.heap.size W).alloc (Nat.le_refl _) (.cells #[] 3)).mono hB))
  refine wpList_append_row (W.alloc (.cells #[] 3)) hgd s y _ ho base 3 i0 (.int .i64 0) 8 Tryd.underlying37 hi hz0 hz1 hz2 rfl _ 0 [] hs (Own.new W base hb _ rfl) B _ (int64s l) hy hr' (ints_one l) (by rw [int64s_length]; unfold maxLen; omega) (by rw [int64s_length]; omega) (by simp; omega) ?_
  intro v' w' h1 h2 _
  refine h v' w' ?_ ?_
  · unfold Own
    rw [int64s_length, Nat.zero_add] at h1
    exact h1
  · exact ((Below.refl W.heap.size W).alloc (Nat.le_refl _) _).grown h2 (by simp) (fun k hk => by
      have : W.heap.size = k := by injection hk
      omega)

theorem newest_any (l : List Int) (v : Value) (B : Nat) (w : World) (hv : Row w B v (int64s l)) (hB : B ≤ w.heap.size) :
    Calls Tryd.prog 27 #[v] w fun e w' => ∃ v', e = .returned v' ∧ Own w' w.heap.size v' (l.take 4) ∧ Below w.heap.size w w' := by
  obtain ⟨hl, A, c, rfl, hc⟩ := row_ints hv
  have HV := Lib.hid hv
  have HB := Lib.hid hB
  have hcc : l.length ≤ c := by
    obtain ⟨_, A', c', e, h1, _⟩ := hv
    injection e with e1 e2 e3
    subst e3
    rwa [int64s_length] at h1
  by_cases h4 : 4 < l.length
  · obtain ⟨b, o, rfl, _, _⟩ := hc 0 (by omega)
    have i1 : (4 : Int) < (l.length : Int) := by omega
    have hc4 : (4 : Int) ≤ (c : Int) := by omega
    have HR := Lib.hid (show Row w B (.slice (some ⟨b, o, none⟩) 4 c) (int64s (l.take 4)) from by
      have := row_top HV.out (k := 4) (by rw [int64s_length]; omega)
      simpa [int64s] using this)
    clear hv hc
    go_enter Tryd.func27, Tryd.ntmps27
    go_wp2_with (first
      | (at_builtin; refine wpList_copy rfl _ _ rfl rfl rfl HR.out HB.out (by simp; omega) (Nat.le_refl _) ?_; intro v' w' h1 h2; have H1 := Lib.hid h1; have H2 := Lib.hid h2; clear h1 h2))
    go_ret
    exact ⟨_, rfl, H1.out, H2.out⟩
  · have i1 : ¬ (4 : Int) < (l.length : Int) := by omega
    have e4 : l.take 4 = l := List.take_of_length_le (by omega)
    rw [e4]
    clear hv hc
    go_enter Tryd.func27, Tryd.ntmps27
    go_wp2_with (first
      | (at_builtin; refine wpList_copy rfl _ _ rfl rfl rfl HV.out HB.out (by omega) (Nat.le_refl _) ?_; intro v' w' h1 h2; have H1 := Lib.hid h1; have H2 := Lib.hid h2; clear h1 h2))
    go_ret
    exact ⟨_, rfl, H1.out, H2.out⟩
end Go.Proofs.YtfgpjelnijeoaaaDoor
