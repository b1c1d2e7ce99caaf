/- What tidewaternum.SameInts answers of two rows of the same numbers: true. -/
import Derived.Test.YtcmihmilkcihcaaDoorRecs
import Derived.WalkKit
import Derived.WalkSpells
import Derived.Deep.QuietTactic
import Derived.BigQuiet
namespace Go.Proofs.YtcmihmilkcihcaaDoor
open Go.RowKit Tide

theorem ints64_form {w : World} {B : Nat} {v : Value} {l : List Int} (h : Row w B v (int64s l)) : ∃ A c, v = .slice A l.length c ∧ ∀ j, j < l.length → ∃ b o, A = some ⟨b, o, none⟩ ∧ b < B ∧ w.cell? ⟨b, o + j, none⟩ = some (.int .i64 (l.getD j 0)) := by
  obtain ⟨_, A, c, rfl, _, _, hc⟩ := h
  refine ⟨A, c, by rw [int64s_length], fun j hj => ?_⟩
  obtain ⟨b, o, e, hb, hcell⟩ := hc (by intro e; have := int64s_length l; rw [e] at this; simp at this; omega)
  refine ⟨b, o, e, hb, hcell j _ ?_⟩
  simp [int64s, hj]

set_option maxHeartbeats 1000000 in
theorem same_ints (u v : Value) (l : List Int) (B B' : Nat) (w : World) (hx : Row w B u (int64s l)) (hy : Row w B' v (int64s l)) :
    Calls Tryd.prog 29 #[u, v] w fun e w' => e = .returned (.bool true) ∧ ∃ n, w' = w.drewN n := by
  have hn := hx.1
  rw [int64s_length] at hn
  obtain ⟨A, c, rfl, hcx⟩ := ints64_form hx
  obtain ⟨A', c', rfl, hcy⟩ := ints64_form hy
  have HX := Lib.hid hcx
  have HY := Lib.hid hcy
  clear hx hy hcx hcy
  go_enter Tryd.func29, Tryd.ntmps29
  go_wp2_with fail
  go_loopw [13] (fun z wr => ∃ (i n : Nat), z = .int .i64 i ∧ i ≤ l.length ∧ Hid (wr = w.drewN n)) (fun z _ => l.length - (intOf z).toNat)
  case atStart => exact ⟨0, 0, rfl, Nat.zero_le _, Lib.hid rfl⟩
  case round =>
    obtain ⟨i, n, rfl, h1, hw⟩ := hrel
    obtain rfl := hw.out
    by_cases hlt : i < l.length
    · obtain ⟨b, o, rfl, _, ha⟩ := HX.out i hlt
      obtain ⟨b', o', rfl, _, hb⟩ := HY.out i hlt
      generalize l.getD i 0 = p at *
      have i1 : (i : Int) < (l.length : Int) := by omega
      go_wp2_with fail
      go_quiet (fail)
      go_wp2_with fail
      go_roundw
      case rel => exact ⟨i + 1, _, by go_num, by omega, Lib.hid rfl⟩
      case measure => simp [intOf]; omega
    · go_wp2_with fail
      go_ret
      exact ⟨rfl, _, rfl⟩
end Go.Proofs.YtcmihmilkcihcaaDoor
