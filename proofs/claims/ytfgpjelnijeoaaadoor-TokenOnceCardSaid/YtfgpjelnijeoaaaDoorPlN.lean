/- tidewaternum's In and SameInts of rows of whole numbers. -/
import Derived.Test.YtfgpjelnijeoaaaDoorPlS
import Derived.Test.YtfgpjelnijeoaaaDoorKeep
import Derived.WalkKit
import Derived.WalkSpells
import Derived.Deep.QuietTactic
import Derived.BigQuiet
namespace Go.Proofs.YtfgpjelnijeoaaaDoor
open Go.RowKit Tide

theorem in_any (x : Int) (l : List Int) (v : Value) (B : Nat) (w : World) (hv : Row w B v (int64s l)) :
    Calls Tryd.prog 19 #[v, .int .i64 x] w fun e w' => e = .returned (.bool (decide (x ∈ l))) ∧ w = w' := by
  obtain ⟨hl, A, c, rfl, hc⟩ := row_ints hv
  have HC := Lib.hid hc
  clear hv hc
  go_enter Tryd.func19, Tryd.ntmps19
  go_wp2_with fail
  go_loop [9] (fun i => ∃ k : Nat, i = .int .i64 k ∧ k ≤ l.length ∧ Hid (¬ x ∈ l.take k)) (fun i => l.length - (intOf i).toNat)
  case atStart => exact ⟨0, rfl, Nat.zero_le _, Lib.hid (by simp)⟩
  case round =>
    obtain ⟨k, rfl, hk, hS⟩ := hrel
    by_cases hlt : k < l.length
    · obtain ⟨b, o, rfl, hbl, hcu⟩ := HC.out k hlt
      have i1 : (k : Int) < (l.length : Int) := by omega
      have HY := Lib.hid (show (l[k] = x → x ∈ l) from fun h => by rw [← h]; exact List.getElem_mem hlt)
      have HN := Lib.hid (show (¬ l[k] = x → ¬ x ∈ l.take (k + 1)) from fun h hx => by
        rw [take_one l k hlt] at hx
        rcases List.mem_append.1 hx with h1 | h1
        · exact hS.out h1
        · simp at h1; exact h h1.symm)
      generalize l[k] = y at *
      by_cases he : y = x
      · have HR := Lib.hid (show decide (x ∈ l) = true from decide_eq_true (HY.out he))
        have q0 : (y == x) = true := by simp [he]
        clear he
        go_wp2_with fail
        go_ret
        exact ⟨by rw [HR.out] <;> rfl, rfl⟩
      · have HR := Lib.hid (HN.out he)
        have q0 : (y == x) = false := by simp [he]
        clear he
        go_wp2_with fail
        go_round
        case rel => exact ⟨k + 1, by go_num, by omega, HR⟩
        case measure => simp [intOf]; omega
    · have HR := Lib.hid (show decide (x ∈ l) = false from decide_eq_false (by have := hS.out; rwa [List.take_of_length_le (by omega)] at this))
      go_wp2_with fail
      go_ret
      exact ⟨by rw [HR.out] <;> rfl, rfl⟩

set_option maxHeartbeats 1000000 in
theorem sameI_any (u v : Value) (l m : List Int) (B B' : Nat) (w : World) (hx : Row w B u (int64s l)) (hy : Row w B' v (int64s m)) :
    Calls Tryd.prog 16 #[u, v] w fun e w' => e = .returned (.bool (decide (l = m))) ∧ Below w.heap.size w w' := by
  obtain ⟨hl, A, c, rfl, hcx⟩ := row_ints hx
  obtain ⟨hl', A', c', rfl, hcy⟩ := row_ints hy
  have HX := Lib.hid hcx
  have HY := Lib.hid hcy
  clear hx hy hcx hcy
  by_cases hne : l.length = m.length
  · have q0 : ((l.length : Int) == (m.length : Int)) = true := by rw [hne]; simp
    have q1 : ((l.length : Int) != (m.length : Int)) = false := by rw [hne]; simp
    have HNE := Lib.hid hne
    clear hne
    go_enter Tryd.func16, Tryd.ntmps16
    go_wp2_with fail
    clear q0 q1
    go_loopw [13] (fun z wr => ∃ i : Nat, z = .int .i64 i ∧ i ≤ l.length ∧ Hid (l.take i = m.take i) ∧ Hid (∃ n, wr = w.drewN n)) (fun z _ => l.length - (intOf z).toNat)
    case atStart => exact ⟨0, rfl, Nat.zero_le _, Lib.hid (by simp), Lib.hid ⟨0, rfl⟩⟩
    case round =>
      obtain ⟨i, rfl, h1, hS, hw⟩ := hrel
      obtain ⟨n, rfl⟩ := hw.out
      by_cases hlt : i < l.length
      · have hlt2 : i < m.length := by have := HNE.out; omega
        obtain ⟨b, o, rfl, _, ha⟩ := HX.out i hlt
        obtain ⟨b', o', rfl, _, hb⟩ := HY.out i hlt2
        have i1 : (i : Int) < (l.length : Int) := by omega
        have i2 : (i : Int) < (m.length : Int) := by omega
        have HS1 := Lib.hid (show (l[i] = m[i] → l.take (i + 1) = m.take (i + 1)) from fun h => by rw [take_one l i hlt, take_one m i hlt2, hS.out, h])
        have HS2 := Lib.hid (show (¬ l[i] = m[i] → ¬ l = m) from fun h e => h (by subst e; rfl))
        generalize l[i] = p at *
        generalize m[i] = q at *
        by_cases he : p = q
        · have HR := Lib.hid (HS1.out he)
          have q0 : (p == q) = true := by simp [he]
          have q1 : (p != q) = false := by simp [he]
          clear he
          go_wp2_with fail
          go_quiet (fail)
          go_wp2_with fail
          go_roundw
          case rel => exact ⟨i + 1, by go_num, by omega, HR, Lib.hid ⟨_, rfl⟩⟩
          case measure => simp [intOf]; omega
        · have HR := Lib.hid (show decide (l = m) = false from decide_eq_false (HS2.out he))
          have q0 : (p == q) = false := by simp [he]
          have q1 : (p != q) = true := by simp [he]
          clear he
          go_wp2_with fail
          go_quiet (fail)
          go_wp2_with fail
          go_ret
          exact ⟨by rw [HR.out] <;> rfl, ⟨rfl, rfl, rfl, Nat.le_refl _, fun _ _ => rfl⟩⟩
      · have HR := Lib.hid (show decide (l = m) = true from decide_eq_true (by
          have := hS.out; rwa [List.take_of_length_le (by omega), List.take_of_length_le (by have := HNE.out; omega)] at this))
        go_wp2_with fail
        go_ret
        exact ⟨by rw [HR.out] <;> rfl, ⟨rfl, rfl, rfl, Nat.le_refl _, fun _ _ => rfl⟩⟩
  · have q0 : ((l.length : Int) == (m.length : Int)) = false := by simp; omega
    have q1 : ((l.length : Int) != (m.length : Int)) = true := by simp; omega
    have HR := Lib.hid (show decide (l = m) = false from decide_eq_false (fun e => hne (by rw [e])))
    clear hne
    go_enter Tryd.func16, Tryd.ntmps16
    go_wp2_with fail
    go_ret
    exact ⟨by rw [HR.out] <;> rfl, Below.refl _ _⟩
end Go.Proofs.YtfgpjelnijeoaaaDoor
