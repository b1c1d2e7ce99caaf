/- Package plan's Tail. -/
import Derived.Test.YtjcingefdgmdkaaDoorPlW
namespace Go.Proofs.YtjcingefdgmdkaaDoor
open Go.RowKit Tide

set_option maxHeartbeats 1000000 in
theorem tail_any (ep : Int) (cs : List (List Int)) (ts : List Int) (v u : Value) (B : Nat) (w : World) (hv : Grid w B v cs) (hu : Row w B u (int64s ts)) (hB : B ≤ w.heap.size) :
    Calls Tryd.prog 13 #[planV ep v, u] w fun e w' => e = .returned (.int .i64 (tailI ep cs ts ts.length)) ∧ Below w.heap.size w w' := by
  obtain ⟨hlen, A, c, rfl, hcl⟩ := hv.form
  obtain ⟨hlu, A2, c2, rfl, hcu⟩ := row_ints hu
  have B0 := Lib.hid ((Below.refl w.heap.size w).alloc (Nat.le_refl _) (.cells #[.int .i64 ep, .slice A cs.length c] 24))
  have P0 := Lib.hid (Two.new w 24 (.int .i64 ep) (.slice A cs.length c))
  have HC := Lib.hid hcu
  have HB := Lib.hid hB
  have CA := Lib.hid (fun ch at' W (h : Below w.heap.size w W) => addr_any ep cs _ ch at' B W (hv.below (h.mono hB)) (Nat.le_trans hB h.size))
  clear hv hB hcl hcu hu
  go_enter Tryd.func13, Tryd.ntmps13
  go_wp2_with fail
  go_loopw [5, 11] (fun t i wr => ∃ k : Nat, i = .int .i64 k ∧ k ≤ ts.length ∧ t = .int .i64 (tailI ep cs ts k) ∧ Hid (Two wr w.heap.size 24 (.int .i64 ep) (.slice A cs.length c)) ∧ Hid (Below w.heap.size w wr)) (fun _ i _ => ts.length - (intOf i).toNat)
  case atStart => exact ⟨0, rfl, Nat.zero_le _, rfl, P0, B0⟩
  case round =>
    obtain ⟨k, rfl, hk, rfl, hP, hBr⟩ := hrel
    by_cases hlt : k < ts.length
    · obtain ⟨b, o, rfl, hbl, hcu⟩ := HC.out k hlt
      have hbw : b < w.heap.size := Nat.lt_of_lt_of_le hbl HB.out
      have hc1 := (hBr.out.cell (p := ⟨b, o + k, none⟩) hbw).trans hcu
      obtain ⟨_, hc2, hc3, _⟩ := hP.out.facts
      have i1 : (k : Int) < (ts.length : Int) := by omega
      have HS := Lib.hid (show tailI ep cs ts (k + 1) = max (tailI ep cs ts k) (addrI ep cs k (lastI ts[k]) + 1) from by
        rw [tailI, List.getD_eq_getElem?_getD, List.getElem?_eq_getElem hlt]; rfl)
      have tb := tail_bd ep cs ts k
      have HAb := Lib.hid (fun x => addr_bd ep cs k x)
      clear hcu
      generalize ts[k] = x at *
      generalize tailI ep cs ts k = t at *
      have three : x < 0 ∨ (0 ≤ x ∧ x ≤ 4096) ∨ 4096 < x := by omega
      obtain ⟨y, hy⟩ : ∃ y, lastI x = y := ⟨_, rfl⟩
      rcases three with hx | ⟨hx, hx2⟩ | hx
      · have HL := Lib.hid (show lastI x = -1 from by unfold lastI; omega)
        clear hy
        go_wp2_with fail
        have HS2 := Lib.hid (show tailI ep cs ts (k + 1) = max t (addrI ep cs k (-1) + 1) from by rw [HS.out, HL.out])
        have hab := HAb.out (-1)
        have CA1 := Lib.hid (CA.out k (-1) _ hBr.out)
        generalize addrI ep cs k (-1) = r at *
        clear HL
        refine CA1.out.mono ?_
        rintro e w1 ⟨rfl, hb⟩
        have HB1 := Lib.hid (hBr.out.trans (hb.mono hBr.out.size))
        have HP1 := Lib.hid (hP.out.below hb hP.out.lt)
        clear hb hc1 hc2 hc3
        by_cases qm : t < r + 1
        · go_wp2_with fail
          go_roundw
          case rel => exact ⟨k + 1, by go_num, by omega, by rw [HS2.out, Int.max_eq_right (by omega)] <;> rfl, HP1, HB1⟩
          case measure => simp [intOf]; omega
        · go_wp2_with fail
          go_roundw
          case rel => exact ⟨k + 1, by go_num, by omega, by rw [HS2.out, Int.max_eq_left (by omega)] <;> rfl, HP1, HB1⟩
          case measure => simp [intOf]; omega
      · have HL := Lib.hid (show lastI x = x - 1 from by unfold lastI; omega)
        clear hy
        have hx3 : ¬ x < 0 := by omega
        go_wp2_with fail
        have HS2 := Lib.hid (show tailI ep cs ts (k + 1) = max t (addrI ep cs k (x - 1) + 1) from by rw [HS.out, HL.out])
        have hab := HAb.out (x - 1)
        have CA1 := Lib.hid (CA.out k (x - 1) _ hBr.out)
        generalize addrI ep cs k (x - 1) = r at *
        clear HL
        refine CA1.out.mono ?_
        rintro e w1 ⟨rfl, hb⟩
        have HB1 := Lib.hid (hBr.out.trans (hb.mono hBr.out.size))
        have HP1 := Lib.hid (hP.out.below hb hP.out.lt)
        clear hb hc1 hc2 hc3
        by_cases qm : t < r + 1
        · go_wp2_with fail
          go_roundw
          case rel => exact ⟨k + 1, by go_num, by omega, by rw [HS2.out, Int.max_eq_right (by omega)] <;> rfl, HP1, HB1⟩
          case measure => simp [intOf]; omega
        · go_wp2_with fail
          go_roundw
          case rel => exact ⟨k + 1, by go_num, by omega, by rw [HS2.out, Int.max_eq_left (by omega)] <;> rfl, HP1, HB1⟩
          case measure => simp [intOf]; omega
      · have HL := Lib.hid (show lastI x = 4095 from by unfold lastI; omega)
        clear hy
        have hx3 : ¬ x < 0 := by omega
        go_wp2_with fail
        have HS2 := Lib.hid (show tailI ep cs ts (k + 1) = max t (addrI ep cs k (4095) + 1) from by rw [HS.out, HL.out])
        have hab := HAb.out (4095)
        have CA1 := Lib.hid (CA.out k (4095) _ hBr.out)
        generalize addrI ep cs k (4095) = r at *
        clear HL
        refine CA1.out.mono ?_
        rintro e w1 ⟨rfl, hb⟩
        have HB1 := Lib.hid (hBr.out.trans (hb.mono hBr.out.size))
        have HP1 := Lib.hid (hP.out.below hb hP.out.lt)
        clear hb hc1 hc2 hc3
        by_cases qm : t < r + 1
        · go_wp2_with fail
          go_roundw
          case rel => exact ⟨k + 1, by go_num, by omega, by rw [HS2.out, Int.max_eq_right (by omega)] <;> rfl, HP1, HB1⟩
          case measure => simp [intOf]; omega
        · go_wp2_with fail
          go_roundw
          case rel => exact ⟨k + 1, by go_num, by omega, by rw [HS2.out, Int.max_eq_left (by omega)] <;> rfl, HP1, HB1⟩
          case measure => simp [intOf]; omega
    · have HE := Lib.hid (show k = ts.length from by omega)
      go_wp2_with fail
      go_ret
      exact ⟨by rw [← HE.out] <;> rfl, hBr.out⟩
end Go.Proofs.YtjcingefdgmdkaaDoor
