/- What pack.number answers: the number that bytes begin with, how many of them it has, or an error. -/
import Derived.Test.YtiafamacjpgjoaaGreatDoorGErr
import Derived.Test.YtiafamacjpgjoaaGreatDoorGMem
import Derived.Test.YtiafamacjpgjoaaGreatDoorGBits7
import Derived.Test.YtiafamacjpgjoaaGreatDoorGPackO
import Derived.IntWalk
namespace Go.Proofs.YtiafamacjpgjoaaGreatDoor
open Go.RowKit Tide

def NumberR (a : Nat → Addr) (l : List UInt8) (w : World) (e : Ending) (w' : World) : Prop :=
  ∃ x, e = .returned (.tuple #[.int .i64 ((rdNum l).2.1 : Nat), .int .i64 ((rdNum l).2.2 : Nat), x]) ∧ IsErr a x (rdNum l).1 ∧ Below w.heap.size w w'

theorem shift7 (D j : Nat) (hD : D < 128) (hj : j ≤ 8) : wrap64 ((D : Int) * 2 ^ (7 * j)) = ((D * 128 ^ j : Nat) : Int) := by
  have h8 : 128 ^ j ≤ 128 ^ 8 := Nat.pow_le_pow_right (by omega) hj
  have hm : D * 128 ^ j ≤ 127 * 128 ^ 8 := Nat.mul_le_mul (by omega) h8
  have e : ((D : Int) * 2 ^ (7 * j)) = ((D * 128 ^ j : Nat) : Int) := by
    rw [show (128 : Nat) = 2 ^ 7 from rfl, ← Nat.pow_mul]
    push_cast
    rfl
  rw [e]
  exact IntWalk.wrap64_in _ (by omega)
theorem or7 (l : List UInt8) (j D : Nat) (h : j < l.length) (hj : j ≤ 8) (hD : l[j].toNat % 128 = D) : bits .or .i64 ((val7 (l.take j) : Nat) : Int) ((D * 128 ^ j : Nat) : Int) = ((val7 (l.take (j + 1)) : Nat) : Int) := by
  rw [i64_put _ D j (by omega) hj (val7_take_lt l j), val7_take l j h, hD]

set_option maxRecDepth 100000 in
set_option maxHeartbeats 2000000 in
theorem number_any (a : Nat → Addr) (v : Value) (l : List UInt8) (B : Nat) (w : World) (hp : Bytes w B v l) (hl : l.length ≤ 100000) (hE : Errs w a) :
    Calls Tryz.prog 146 #[v] w (NumberR a l w) := by
  obtain ⟨A, c, rfl, _, _, hb⟩ := hp.form
  have HB := Lib.hid hb
  have hg1 := hE.var 1 (by omega)
  have hg3 := hE.var 3 (by omega)
  simp only [evars, List.getD_cons_zero, List.getD_cons_succ] at hg1 hg3
  have hm : min (l.length : Int) 9 = ((min l.length 9 : Nat) : Int) := by omega
  obtain ⟨M, hM⟩ : ∃ M, min l.length 9 = M := ⟨_, rfl⟩
  rw [hM] at hm
  have HM := Lib.hid hM
  have hM9 : M ≤ 9 := by omega
  have hMl : M ≤ l.length := by omega
  clear hb hp hE hM hm
  go_enter Tryz.func146, Tryz.ntmps146
  go_wp2_with fail
  all_goals
    go_loop [5, 10] (fun n i => ∃ j : Nat, i = .int .i64 j ∧ j ≤ M ∧ n = .int .i64 (val7 (l.take j) : Nat) ∧ Hid (∀ c ∈ l.take j, 128 ≤ c.toNat)) (fun _ i => M - (intOf i).toNat)
    case atStart => exact ⟨0, rfl, Nat.zero_le _, rfl, Lib.hid (by simp)⟩
    case round =>
      obtain ⟨j, rfl, hj, rfl, ha⟩ := hrel
      by_cases hlt : j < M
      · have hj8 : j ≤ 8 := by omega
        have hjl : j < l.length := by omega
        have hin : (j : Int) < (l.length : Int) := by omega
        have hin9 : (j : Int) < 9 := by omega
        obtain ⟨b, o, rfl, _, hcs⟩ := HB.out j hjl
        have hc := hcs j hjl
        clear hcs
        have hrl := Lib.hid (fun h => rd_last ha.out hjl hj8 h)
        have hnext := Lib.hid (show 128 ≤ l[j].toNat → ∀ c ∈ l.take (j + 1), 128 ≤ c.toNat from fun h c hc => by
          rw [List.take_succ_eq_append_getElem hjl] at hc
          rcases List.mem_append.1 hc with hc | hc
          · exact ha.out c hc
          · rw [List.mem_singleton.1 hc]; exact h)
        have hcl := l[j].toNat_lt
        obtain ⟨D, hD⟩ : ∃ D, l[j].toNat % 128 = D := ⟨_, rfl⟩
        have hD1 : D < 128 := by omega
        have e1 : bits .and .u8 (l[j].toNat : Int) 127 = (D : Int) := by rw [u8_low7, hD]
        have e2 := u8_eighth l[j]
        have e3 := shift7 D j hD1 hj8
        have e4 := or7 l j D hjl hj8 hD
        have HA := ha
        clear ha hD
        generalize l[j].toNat = C at *
        generalize val7 (l.take j) = V at *
        generalize hV' : val7 (l.take (j + 1)) = V' at *
        generalize D * 128 ^ j = S at *
        by_cases h128 : 128 ≤ C
        · have e5 : ((C / 128 * 128 : Nat) : Int) = 128 := by omega
          rw [e5] at e2
          have HN := Lib.hid (hnext.out h128)
          clear hrl hnext e5
          go_wp2_with fail
          go_round
          case rel => exact ⟨j + 1, by go_num, by omega, by rw [hV'], HN⟩
          case measure => simp [intOf]; omega
        · have e5 : ((C / 128 * 128 : Nat) : Int) = 0 := by omega
          rw [e5] at e2
          have HR := Lib.hid (hrl.out (by omega))
          clear hrl hnext e5
          by_cases hC : C = 0
          · have q1 : ((C : Int) == 0) = true := by simp [hC]
            by_cases hz : 0 < j
            · have hrd := Lib.hid (show rdNum l = (4, 0, 0) by rw [HR.out, if_pos (.inl ⟨hC, hz⟩)])
              have q2 : decide (0 < j) = true := by simp; omega
              have q3 : ¬ j = 0 := by omega
              clear hC hz HR
              go_wp2_with fail
              go_quiet (fail)
              go_wp2_with fail
              go_ret3
              exact ⟨_, by rw [hrd.out]; rfl, by rw [hrd.out]; exact isErr_at a 3 (by omega), ⟨rfl, rfl, rfl, Nat.le_refl _, fun _ _ => rfl⟩⟩
            · have hv0 : V' ≤ 4611686018427387903 := by
                have := val7_take_lt l (j + 1)
                rw [hV', show j = 0 by omega] at this
                omega
              have hrd := Lib.hid (show rdNum l = (0, V', j + 1) by rw [HR.out, if_neg (by omega)])
              have q2 : decide (0 < j) = false := by simp; omega
              have q3 : ¬ 0 < j := by omega
              have q4 : decide ((4611686018427387903 : Int) < (V' : Int)) = false := by simp; omega
              clear hC hz HR
              go_wp2_with fail
              go_ret3
              exact ⟨_, by rw [hrd.out]; rfl, by rw [hrd.out]; exact isErr_nil a, Below.refl _ _⟩
          · have q1 : ((C : Int) == 0) = false := by simp [hC]
            by_cases hv : 4611686018427387903 < V'
            · have hrd := Lib.hid (show rdNum l = (4, 0, 0) by rw [HR.out, if_pos (.inr hv)])
              have q4 : decide ((4611686018427387903 : Int) < (V' : Int)) = true := by simp; omega
              clear HR
              go_wp2_with fail
              go_quiet (fail)
              go_wp2_with fail
              go_ret3
              exact ⟨_, by rw [hrd.out]; rfl, by rw [hrd.out]; exact isErr_at a 3 (by omega), ⟨rfl, rfl, rfl, Nat.le_refl _, fun _ _ => rfl⟩⟩
            · have hrd := Lib.hid (show rdNum l = (0, V', j + 1) by rw [HR.out, if_neg (by omega)])
              have q4 : decide ((4611686018427387903 : Int) < (V' : Int)) = false := by simp; omega
              clear HR
              go_wp2_with fail
              go_ret3
              exact ⟨_, by rw [hrd.out]; rfl, by rw [hrd.out]; exact isErr_nil a, Below.refl _ _⟩
      · have hjM : j = M := by omega
        by_cases h9 : l.length < 9
        · have hml : M = l.length := by have := HM.out; omega
          have hrd := Lib.hid (show rdNum l = (2, 0, 0) from rd_short (fun c hc => ha.out c (by rw [hjM, hml, List.take_length]; exact hc)) h9)
          have q5 : decide ((l.length : Int) < 9) = true := by simp; omega
          have q6 : decide ((j : Int) < (l.length : Int)) = false := by simp; omega
          have q7 : ¬ j < l.length := by omega
          first
          | (exfalso; omega)
          | (clear hjM hml
             go_wp2_with fail
             go_quiet (fail)
             go_wp2_with fail
             go_ret3
             exact ⟨_, by rw [hrd.out]; rfl, by rw [hrd.out]; exact isErr_at a 1 (by omega), ⟨rfl, rfl, rfl, Nat.le_refl _, fun _ _ => rfl⟩⟩)
        · have hml : M = 9 := by have := HM.out; omega
          have hrd := Lib.hid (show rdNum l = (4, 0, 0) from rd_nine (fun c hc => ha.out c (by rw [hjM, hml]; exact hc)) (by omega))
          have q5 : decide ((l.length : Int) < 9) = false := by simp; omega
          have q6 : decide ((j : Int) < 9) = false := by simp; omega
          clear hjM hml
          by_cases h10 : 9 < l.length
          · first
            | (exfalso; omega)
            | (go_wp2_with fail
               go_quiet (fail)
               go_wp2_with fail
               go_ret3
               exact ⟨_, by rw [hrd.out]; rfl, by rw [hrd.out]; exact isErr_at a 3 (by omega), ⟨rfl, rfl, rfl, Nat.le_refl _, fun _ _ => rfl⟩⟩)
          · have q9 : ¬ j < l.length := by have := HM.out; omega
            first
            | (exfalso; omega)
            | (go_wp2_with fail
               go_quiet (fail)
               go_wp2_with fail
               go_ret3
               exact ⟨_, by rw [hrd.out]; rfl, by rw [hrd.out]; exact isErr_at a 3 (by omega), ⟨rfl, rfl, rfl, Nat.le_refl _, fun _ _ => rfl⟩⟩)
end Go.Proofs.YtiafamacjpgjoaaGreatDoor
