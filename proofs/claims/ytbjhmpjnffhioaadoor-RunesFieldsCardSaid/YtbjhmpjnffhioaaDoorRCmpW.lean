/- What the document's own tidewaterref02.Compare answers: the order of two rows of numbers. -/
import Derived.Test.YtbjhmpjnffhioaaDoorUtfO
import Derived.Test.YtbjhmpjnffhioaaDoorMem
import Derived.Test.YtbjhmpjnffhioaaDoorRows
import Derived.WalkKit
import Derived.WalkSpells
import Derived.WalkLawsBesides
import Derived.Deep.QuietTactic
import Derived.BigQuiet
namespace Go.Proofs.YtbjhmpjnffhioaaDoor
open Go.RowKit Tide Utf

/-- The cells of numbers. -/
def intCells (l : List Nat) : List Value := l.map fun c : Nat => Value.int .i64 (c : Int)
theorem intCells_length (l : List Nat) : (intCells l).length = l.length := by simp [intCells]
theorem ints_form {w : World} {B : Nat} {v : Value} {l : List Nat} (h : Row w B v (intCells l)) : l.length ≤ 9223372036854775807 ∧ ∃ A c, v = .slice A l.length c ∧
    ∀ j, j < l.length → ∃ b o, A = some ⟨b, o, none⟩ ∧ w.cell? ⟨b, o + j, none⟩ = some (.int .i64 (l.getD j 0 : Nat)) := by
  obtain ⟨hn, A, c, rfl, _, _, hc⟩ := h
  refine ⟨by simpa [intCells_length] using hn, A, c, by rw [intCells_length], fun j hj => ?_⟩
  obtain ⟨b, o, e, _, hcell⟩ := hc (by intro e; have := intCells_length l; rw [e] at this; simp at this; omega)
  exact ⟨b, o, e, hcell j _ (by simp [intCells, hj])⟩
theorem cmp_drop {x y : List Nat} {i : Nat} (hx : i < x.length) (hy : i < y.length) :
    cmp (x.drop i) (y.drop i) = if x.getD i 0 < y.getD i 0 then -1 else if y.getD i 0 < x.getD i 0 then 1 else cmp (x.drop (i + 1)) (y.drop (i + 1)) := by
  rw [List.drop_eq_getElem_cons hx, List.drop_eq_getElem_cons hy, List.getD_eq_getElem?_getD, List.getD_eq_getElem?_getD, List.getElem?_eq_getElem hx, List.getElem?_eq_getElem hy]
  rfl
theorem cmp_end {x y : List Nat} {i : Nat} (hx : i ≤ x.length) (hy : i ≤ y.length) (h : i = x.length ∨ i = y.length) :
    cmp (x.drop i) (y.drop i) = if x.length < y.length then -1 else if y.length < x.length then 1 else 0 := by
  rcases h with h | h
  · rw [List.drop_of_length_le (l := x) (by omega)]
    by_cases h2 : i < y.length
    · rw [List.drop_eq_getElem_cons h2, if_pos (by omega)]; rfl
    · rw [List.drop_of_length_le (by omega), if_neg (by omega), if_neg (by omega)]; rfl
  · rw [List.drop_of_length_le (l := y) (by omega)]
    by_cases h2 : i < x.length
    · rw [List.drop_eq_getElem_cons h2, if_neg (by omega), if_pos (by omega)]; rfl
    · rw [List.drop_of_length_le (by omega), if_neg (by omega), if_neg (by omega)]; rfl
theorem draws2 (w : World) (a b : Nat) : ∃ n, (w.drewN a).drewN b = w.drewN n := ⟨a + b, by rw [World.drewN_drewN]⟩
theorem draws3 (w : World) (a b c : Nat) : ∃ n, ((w.drewN a).drewN b).drewN c = w.drewN n := ⟨a + (b + c), by rw [World.drewN_drewN, World.drewN_drewN]⟩
theorem ret_i {a b : Int} (h : a = b) : Ending.returned (.int .i64 a) = .returned (.int .i64 b) := by rw [h]

set_option maxHeartbeats 1000000 in
theorem rcmp_any (u v : Value) (x y : List Nat) (B : Nat) (w : World) (hx : Row w B u (intCells x)) (hy : Row w B v (intCells y)) :
    Calls Tryd.prog 20 #[u, v] w fun e w' => e = .returned (.int .i64 (cmp x y)) ∧ ∃ n, w' = w.drewN n := by
  obtain ⟨hxl, A, c, rfl, hcx⟩ := ints_form hx
  obtain ⟨hyl, A', c', rfl, hcy⟩ := ints_form hy
  have HX := Lib.hid hcx
  have HY := Lib.hid hcy
  clear hx hy hcx hcy
  go_enter Tryd.func20, Tryd.ntmps20
  go_wp2_with fail
  go_loopw [5] (fun z wr => ∃ (i n : Nat), z = .int .i64 i ∧ i ≤ x.length ∧ i ≤ y.length ∧ Hid (cmp x y = cmp (x.drop i) (y.drop i)) ∧ Hid (wr = w.drewN n)) (fun z _ => x.length - (intOf z).toNat)
  case atStart => exact ⟨0, 0, rfl, Nat.zero_le _, Nat.zero_le _, Lib.hid (by simp), Lib.hid rfl⟩
  case round =>
    obtain ⟨i, n, rfl, h1, h2, hc, hw⟩ := hrel
    obtain rfl := hw.out
    by_cases hlt : i < x.length ∧ i < y.length
    · obtain ⟨b, o, rfl, ha⟩ := HX.out i hlt.1
      obtain ⟨b', o', rfl, hb⟩ := HY.out i hlt.2
      obtain ⟨l1, l2⟩ := hlt
      have hd := Lib.hid (hc.out.trans (cmp_drop l1 l2))
      generalize x.getD i 0 = p at *
      generalize y.getD i 0 = q at *
      have i1 : (i : Int) < (x.length : Int) := by omega
      have i2 : (i : Int) < (y.length : Int) := by omega
      by_cases hpq : p < q
      · have hr := Lib.hid (hd.out.trans (if_pos hpq))
        go_wp2_with fail
        go_quiet (fail)
        go_wp2_with fail
        go_ret
        exact ⟨ret_i (by rw [hr.out]), draws2 _ _ _⟩
      by_cases hqp : q < p
      · have hr := Lib.hid ((hd.out.trans (if_neg hpq)).trans (if_pos hqp))
        go_wp2_with fail
        go_quiet (fail)
        go_wp2_with fail
        go_quiet (fail)
        go_wp2_with fail
        go_ret
        exact ⟨ret_i (by rw [hr.out]), draws3 _ _ _ _⟩
      have hr := Lib.hid ((hd.out.trans (if_neg hpq)).trans (if_neg hqp))
      go_wp2_with fail
      go_quiet (fail)
      go_wp2_with fail
      go_quiet (fail)
      go_wp2_with fail
      go_roundw
      case rel => exact ⟨i + 1, _, by go_num, by omega, by omega, hr, Lib.hid rfl⟩
      case measure => simp [intOf]; omega
    · have he := Lib.hid (hc.out.trans (cmp_end h1 h2 (by omega)))
      by_cases g1 : x.length < y.length
      · have hr := Lib.hid (he.out.trans (if_pos g1))
        by_cases g0 : i < x.length
        · exact absurd ⟨g0, by omega⟩ hlt
        clear hlt
        go_wp2_with fail
        go_ret
        exact ⟨ret_i (by rw [hr.out]), _, rfl⟩
      by_cases g2 : y.length < x.length
      · have hr := Lib.hid ((he.out.trans (if_neg g1)).trans (if_pos g2))
        have g3 : ¬ i < y.length := fun h => hlt ⟨by omega, h⟩
        clear hlt
        go_wp2_with fail
        all_goals
          go_ret
          exact ⟨ret_i (by rw [hr.out]), _, rfl⟩
      have hr := Lib.hid ((he.out.trans (if_neg g1)).trans (if_neg g2))
      have g3 : ¬ i < y.length := fun h => hlt ⟨by omega, h⟩
      clear hlt
      go_wp2_with fail
      all_goals
        go_ret
        exact ⟨ret_i (by rw [hr.out]), _, rfl⟩
end Go.Proofs.YtbjhmpjnffhioaaDoor
