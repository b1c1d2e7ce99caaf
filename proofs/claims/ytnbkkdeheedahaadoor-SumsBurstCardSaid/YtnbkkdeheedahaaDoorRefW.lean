/- What the bit by bit sum of the document's own answers is: the check sum of all bytes, for every world in which they can be read. -/
import Derived.Test.YtnbkkdeheedahaaDoorSumW2
namespace Go.Proofs.YtnbkkdeheedahaaDoor
open Go.RowKit Tide

theorem low1 (y : Nat) (h : y < 4294967296) : bits .and .u32 (y : Int) 1 = ((y % 2 : Nat) : Int) := by
  have h := u32_and_nat y 1 h (by omega)
  rw [show y &&& 1 = y % 2 from nat_mask1 y] at h
  exact h
theorem low1p (d m : Nat) (h : d < 256) : bits .and .u32 ((d : Int) / 2 ^ m) 1 = ((d / 2 ^ m % 2 : Nat) : Int) := by
  have h1 := low1 (d / 2 ^ m) (Nat.lt_of_le_of_lt (Nat.div_le_self _ _) (by omega))
  rw [← h1]
  simp
theorem xhalf (y : Nat) (h : y < 4294967296) : bits .xor .u32 ((y : Int) / 2) 3988292384 = ((y / 2 ^^^ Crc.poly : Nat) : Int) := by
  have h1 := x32 (y / 2) 3988292384 (by omega) (by omega)
  rw [show (y : Int) / 2 = ((y / 2 : Nat) : Int) by omega]
  exact h1
theorem ne_f {a b : Nat} (h : a = b) : ((a : Int) != (b : Int)) = false := by simp; omega
theorem ne_t {a b : Nat} (h : ¬ a = b) : ((a : Int) != (b : Int)) = true := by simp; omega
theorem ne_fp {y d m : Nat} (h : y % 2 = d / 2 ^ m % 2) : ((y : Int) % 2 != (d : Int) / 2 ^ m % 2) = false := by
  have := ne_f h
  push_cast at this
  exact this
theorem ne_tp {y d m : Nat} (h : ¬ y % 2 = d / 2 ^ m % 2) : ((y : Int) % 2 != (d : Int) / 2 ^ m % 2) = true := by
  have := ne_t h
  push_cast at this
  exact this
theorem val_u32 {a b : Int} (h : a = b) : Value.int .u32 a = Value.int .u32 b := by rw [h]

set_option maxHeartbeats 400000 in
theorem rsum_any (v : Value) (L : List UInt8) (B : Nat) (w : World) (hp : Bytes w B v L) :
    Calls Tryd.prog 10 #[v] w fun e w' => e = .returned (.int .u32 (Crc.sum L : Nat)) ∧ w = w' := by
  obtain ⟨A2, c2, rfl, _, _, hb⟩ := hp.form
  have hl2 := hp.len
  have hB := Lib.hid hb
  clear hb hp
  go_enter Tryd.func10, Tryd.ntmps10
  go_wp2
  go_loop [3, 10] (fun r i => ∃ j : Nat, j ≤ L.length ∧ i = .int .i64 j ∧ r = .int .u32 (Crc.run 4294967295 (L.take j) : Nat)) (fun _ i => L.length - (intOf i).toNat)
  case atStart => exact ⟨0, Nat.zero_le _, rfl, by simp [Crc.run]⟩
  case round =>
    obtain ⟨j, hj, rfl, rfl⟩ := hrel
    have hr1 := Crc.run_lt (r := 4294967295) (by omega) (L.take j)
    by_cases hlt2 : j < L.length
    · obtain ⟨b2, o2, rfl, _, hcs⟩ := hB.out j hlt2
      have hc2 := hcs j hlt2
      clear hcs
      have hnext2 := Lib.hid (show Crc.run 4294967295 (L.take (j + 1)) = Crc.byte (Crc.run 4294967295 (L.take j)) L[j].toNat by
        rw [List.take_succ_eq_append_getElem hlt2, Crc.run_snoc])
      have hcl := L[j].toNat_lt
      generalize hR : Crc.run 4294967295 (L.take j) = S at *
      generalize hL : L[j].toNat = d at *
      clear hR hL
      have hd : d < 256 := by omega
      go_wp2
      go_loop [3, 6] (fun r i => ∃ m : Nat, m ≤ 8 ∧ i = .int .i64 m ∧ r = .int .u32 (Crc.mid S d m : Nat)) (fun _ i => 8 - (intOf i).toNat)
      case atStart => exact ⟨0, Nat.zero_le _, rfl, by rw [Crc.mid_zero]⟩
      case round =>
        obtain ⟨m, hm, rfl, rfl⟩ := hrel
        have hyl := Crc.mid_lt m hr1 hd
        by_cases hlt3 : m < 8
        · have hst := Lib.hid (Crc.mid_step S d m)
          generalize Crc.mid S d m = Y at *
          have hi := Lib.hid hyl
          have ha := low1 Y hyl
          have hb := low1p d m hd
          by_cases he : Y % 2 = d / 2 ^ m % 2
          · have hst2 := Lib.hid (hst.out.trans (if_pos he))
            have hne := ne_fp he
            clear hst he
            go_wp2
            go_round
            case rel => exact ⟨m + 1, by omega, by go_num, by rw [hst2.out]; exact val_u32 (by omega)⟩
            case measure => simp [intOf]; omega
          · have hst2 := Lib.hid (hst.out.trans (if_neg he))
            have hne := ne_tp he
            have hx := xhalf Y hyl
            clear hst he
            go_wp2
            go_round
            case rel => exact ⟨m + 1, by omega, by go_num, by rw [hst2.out]⟩
            case measure => simp [intOf]; omega
        · have hm8 : m = 8 := by omega
          subst hm8
          have h8 := Lib.hid (Crc.mid_eight S d hd)
          go_wp2
          go_round
          case rel => exact ⟨j + 1, by omega, by go_num, by rw [hnext2.out, h8.out]⟩
          case measure => simp [intOf]; omega
    · have hkl := Lib.hid (show L.take j = L from List.take_of_length_le (by omega))
      generalize hR : Crc.run 4294967295 (L.take j) = R at *
      have hR2 := Lib.hid hR
      clear hR
      have hx := x32 R 4294967295 hr1 (by omega)
      rw [show ((4294967295 : Nat) : Int) = 4294967295 from rfl] at hx
      go_wp2
      go_ret
      exact ⟨ret_int (by unfold Crc.sum; rw [← hR2.out, hkl.out]), rfl⟩
end Go.Proofs.YtnbkkdeheedahaaDoor
