/- What tidewaternum.SameTexts answers of two rows of the same texts: true. -/
import Derived.Test.YtbjhmpjnffhioaaDoorFieldW
import Derived.Deep.QuietTactic
import Derived.BigQuiet
namespace Go.Proofs.YtbjhmpjnffhioaaDoor
open Go.RowKit Tide Utf

theorem strs_form {w : World} {B : Nat} {v : Value} {l : List ByteArray} (h : Row w B v (strs l)) : l.length ≤ 9223372036854775807 ∧ ∃ A c, v = .slice A l.length c ∧
    ∀ j, j < l.length → ∃ b o, A = some ⟨b, o, none⟩ ∧ w.cell? ⟨b, o + j, none⟩ = some (.string (l.getD j ⟨#[]⟩)) := by
  obtain ⟨hn, A, c, rfl, h1, h2, hc⟩ := h
  rw [strs_length] at hn ⊢
  refine ⟨hn, A, c, rfl, fun j hj => ?_⟩
  obtain ⟨b, o, e, _, hcell⟩ := hc (by intro e; have := strs_length l; rw [e] at this; simp at this; omega)
  refine ⟨b, o, e, hcell j _ ?_⟩
  rw [List.getD_eq_getElem?_getD, List.getElem?_eq_getElem hj]
  simp [strs, hj]

set_option maxHeartbeats 1000000 in
theorem same_any (u v : Value) (l : List ByteArray) (B : Nat) (w : World) (hx : Row w B u (strs l)) (hy : Row w B v (strs l)) :
    Calls Tryd.prog 24 #[u, v] w fun e w' => e = .returned (.bool true) ∧ ∃ n, w' = w.drewN n := by
  obtain ⟨hxl, A, c, rfl, hcx⟩ := strs_form hx
  obtain ⟨_, A', c', rfl, hcy⟩ := strs_form hy
  have HX := Lib.hid hcx
  have HY := Lib.hid hcy
  clear hx hy hcx hcy
  go_enter Tryd.func24, Tryd.ntmps24
  go_wp2_with fail
  go_loopw [13] (fun z wr => ∃ (i n : Nat), z = .int .i64 i ∧ i ≤ l.length ∧ Hid (wr = w.drewN n)) (fun z _ => l.length - (intOf z).toNat)
  case atStart => exact ⟨0, 0, rfl, Nat.zero_le _, Lib.hid rfl⟩
  case round =>
    obtain ⟨i, n, rfl, h1, hw⟩ := hrel
    obtain rfl := hw.out
    by_cases hlt : i < l.length
    · obtain ⟨b, o, rfl, ha⟩ := HX.out i hlt
      obtain ⟨b', o', rfl, hb⟩ := HY.out i hlt
      generalize l.getD i ⟨#[]⟩ = p at *
      have i1 : (i : Int) < (l.length : Int) := by omega
      go_wp2_with fail
      go_quiet (fail)
      go_wp2_with fail
      go_roundw
      case rel => exact ⟨i + 1, _, by go_num, by omega, Lib.hid rfl⟩
      case measure => simp [intOf]; omega
    · go_wp2_with fail
      go_ret
      exact ⟨rfl, _, rfl⟩
end Go.Proofs.YtbjhmpjnffhioaaDoor
