/- The document's own plans: Right and Tail. -/
import Derived.Test.YtjcingefdgmdkaaDoorPlR
import Derived.Test.YtjcingefdgmdkaaDoorPlT
import Derived.Test.YtjcingefdgmdkaaDoorPlN
import Derived.Test.YtjcingefdgmdkaaDoorPush
namespace Go.Proofs.YtjcingefdgmdkaaDoor
open Go.RowKit Tide

set_option maxHeartbeats 2000000 in
theorem rright_any (ep : Int) (cs : List (List Int)) (v : Value) (B : Nat) (w : World) (hv : Grid w B v cs) (hB : B ≤ w.heap.size) :
    Calls Tryd.prog 8 #[planV ep v] w fun e w' => e = .returned (.bool (rightB ep cs)) ∧ Below w.heap.size w w' := by
  obtain ⟨hlen, A, c, rfl, hcell⟩ := hv.form
  have HC := Lib.hid hcell
  have HB := Lib.hid hB
  have hb0 := (Below.refl w.heap.size w).alloc (Nat.le_refl _) (.cells #[.int .i64 ep, .slice A cs.length c] 28)
  have B0 := Lib.hid hb0
  have O0 := Lib.hid (Own.new (w.alloc (.cells #[.int .i64 ep, .slice A cs.length c] 28)) w.heap.size (by simp) (w.heap.size + 1) (by simp))
  clear hv hcell hB hb0
  cases q0 : decide (ep < 0) with
  | true =>
    have HR := Lib.hid (show rightB ep cs = false from by unfold rightB; simp at q0; simp; omega)
    go_enter Tryd.func8, Tryd.ntmps8
    go_wp2_with fail
    go_ret
    exact ⟨by rw [HR.out] <;> rfl, B0.out⟩
  | false =>
  cases q1 : decide (1073741824 < ep) with
  | true =>
    have HR := Lib.hid (show rightB ep cs = false from by unfold rightB; simp at q1; simp; omega)
    go_enter Tryd.func8, Tryd.ntmps8
    go_wp2_with fail
    go_ret
    exact ⟨by rw [HR.out] <;> rfl, B0.out⟩
  | false =>
  cases q2 : decide ((cs.length : Int) < 1) with
  | true =>
    have HR := Lib.hid (show rightB ep cs = false from by unfold rightB; simp at q2; simp; omega)
    go_enter Tryd.func8, Tryd.ntmps8
    go_wp2_with fail
    go_ret
    exact ⟨by rw [HR.out] <;> rfl, B0.out⟩
  | false =>
  cases q3 : decide ((3 : Int) < (cs.length : Int)) with
  | true =>
    have HR := Lib.hid (show rightB ep cs = false from by unfold rightB; simp at q3; simp; omega)
    go_enter Tryd.func8, Tryd.ntmps8
    go_wp2_with fail
    go_ret
    exact ⟨by rw [HR.out] <;> rfl, B0.out⟩
  | false =>
    have HA := Lib.hid (show (cs.all sizeB = true → goodU cs.flatten = true → rightB ep cs = true) from fun h4 h5 => right_all q0 q1 q2 q3 h4 h5)
    have HL3 := Lib.hid (show cs.length ≤ 3 by simp at q3; omega)
    go_enter Tryd.func8, Tryd.ntmps8
    go_wp2_with fail
    go_loopw [3, 32] (fun sv i wr => ∃ k : Nat, i = .int .i64 k ∧ k ≤ cs.length ∧ Hid ((cs.take k).all sizeB = true) ∧ Hid (goodU (cs.take k).flatten = true) ∧ Hid (Own wr w.heap.size sv (cs.take k).flatten) ∧ Hid ((cs.take k).flatten.length ≤ 3 * k) ∧ Hid (Below w.heap.size w wr)) (fun _ i _ => cs.length - (intOf i).toNat)
    case atStart => exact ⟨0, rfl, Nat.zero_le _, Lib.hid rfl, Lib.hid good_nil, O0, Lib.hid (by simp), Lib.hid (B0.out.alloc (by simp) _)⟩
    case round =>
      obtain ⟨k, rfl, hk, hS, hG, hO, hL, hBr⟩ := hrel
      by_cases hlt : k < cs.length
      · obtain ⟨b, o, u, rfl, hbl, hcu, hr⟩ := HC.out k hlt
        obtain ⟨hul, Au, cu, rfl, huc⟩ := row_ints hr
        have hbw : b < w.heap.size := Nat.lt_of_lt_of_le hbl HB.out
        have hc1 := (hBr.out.cell (p := ⟨b, o + k, none⟩) hbw).trans hcu
        have HU := Lib.hid huc
        have HSz := Lib.hid (fun (h : sizeB cs[k] = false) => right_size (ep := ep) hlt h)
        have HUn := Lib.hid (fun (j : Nat) (hj : j < cs[k].length) (h : takeB ((cs.take k).flatten ++ cs[k].take j) cs[k][j] = false) => right_unit (ep := ep) hlt hj h)
        have HAl := Lib.hid (show (sizeB cs[k] = true → (cs.take (k + 1)).all sizeB = true) from fun h => by rw [List.take_succ_eq_append_getElem hlt, List.all_append, hS.out]; simp [h])
        have HFl := Lib.hid (take_flat cs k hlt)
        have i1 : (k : Int) < (cs.length : Int) := by omega
        clear hr huc hcu
        generalize cs[k] = cc at *
        cases q4 : decide ((cc.length : Int) < 1) with
        | true =>
          have HR := Lib.hid (HSz.out (by unfold sizeB; simp at q4; simp; omega))
          go_wp2_with fail
          go_ret
          exact ⟨by rw [HR.out] <;> rfl, hBr.out⟩
        | false =>
        cases q5 : decide ((3 : Int) < (cc.length : Int)) with
        | true =>
          have HR := Lib.hid (HSz.out (by unfold sizeB; simp at q5; simp; omega))
          go_wp2_with fail
          go_ret
          exact ⟨by rw [HR.out] <;> rfl, hBr.out⟩
        | false =>
          have HA2 := Lib.hid (HAl.out (by unfold sizeB; simp at q4 q5; simp; omega))
          have HC3 := Lib.hid (show cc.length ≤ 3 by simp at q5; omega)
          go_wp2_with fail
          go_loopw [3, 46] (fun sv i wr => ∃ j : Nat, i = .int .i64 j ∧ j ≤ cc.length ∧ Hid (goodU ((cs.take k).flatten ++ cc.take j) = true) ∧ Hid (Own wr w.heap.size sv ((cs.take k).flatten ++ cc.take j)) ∧ Hid (Below w.heap.size w wr)) (fun _ i _ => cc.length - (intOf i).toNat)
          case atStart => exact ⟨0, rfl, Nat.zero_le _, Lib.hid (by rw [List.take_zero, List.append_nil]; exact hG.out), Lib.hid (by rw [List.take_zero, List.append_nil]; exact hO.out), hBr⟩
          case round =>
            clear hG hO
            obtain ⟨j, rfl, hj, hG, hO, hBr2⟩ := hrel
            by_cases hjl : j < cc.length
            · obtain ⟨b2, o2, rfl, hbl2, hcu⟩ := HU.out j hjl
              have hbw2 : b2 < w.heap.size := Nat.lt_of_lt_of_le hbl2 HB.out
              have hc2 := (hBr2.out.cell (p := ⟨b2, o2 + j, none⟩) hbw2).trans hcu
              have i2 : (j : Int) < (cc.length : Int) := by omega
              have HUj := Lib.hid (HUn.out j hjl)
              have HTk := Lib.hid (take_one cc j hjl)
              clear hcu
              generalize cc[j] = x at *
              have CI := Lib.hid (in_any x _ _ _ _ hO.out.row)
              have HLn := Lib.hid (show ((cs.take k).flatten ++ cc.take j).length ≤ 1000000 from by
                rw [List.length_append, List.length_take]; have := hL.out; have := HC3.out; have := HL3.out; omega)
              cases q6 : decide (x < 0) with
              | true =>
                have HR := Lib.hid (HUj.out (by unfold takeB; simp at q6; rw [decide_eq_false (by omega)]; rfl))
                go_wp2_with fail
                go_ret
                exact ⟨by rw [HR.out] <;> rfl, hBr2.out⟩
              | false =>
              cases q7 : decide (11 < x) with
              | true =>
                have HR := Lib.hid (HUj.out (by unfold takeB; simp at q7; rw [show decide (x < 12) = false from decide_eq_false (by omega)]; simp))
                go_wp2_with fail
                go_ret
                exact ⟨by rw [HR.out] <;> rfl, hBr2.out⟩
              | false =>
              cases q8 : decide (x ∈ (cs.take k).flatten ++ cc.take j) with
              | true =>
                have HR := Lib.hid (HUj.out (by unfold takeB; rw [q8]; simp))
                rw [q8] at CI
                clear q8
                go_wp2_with fail
                refine CI.out.mono ?_
                rintro e w' ⟨rfl, rfl⟩
                go_wp2_with fail
                go_ret
                exact ⟨by rw [HR.out] <;> rfl, hBr2.out⟩
              | false =>
                have HGo := Lib.hid (show goodU ((cs.take k).flatten ++ cc.take (j + 1)) = true from by
                  rw [HTk.out, ← List.append_assoc, good_snoc, hG.out]; unfold takeB; rw [q8]; simp at q6 q7; simp; omega)
                rw [q8] at CI
                clear q8
                go_wp2_with fail
                refine CI.out.mono ?_
                rintro e w' ⟨rfl, rfl⟩
                go_wp2_with (at_builtin; refine wpList_push rfl (.tmp 61) (.tmp 63) rfl x rfl rfl hO.out HLn.out hBr2.out.size ?_)
                intro v9 w9 h1 _ h3
                have O9 := Lib.hid h1
                have B9 := Lib.hid (hBr2.out.trans h3)
                clear h1 h3
                go_wp2_with fail
                go_roundw
                case rel => exact ⟨j + 1, by go_num, by omega, HGo, Lib.hid (by rw [HTk.out]; exact O9.out), B9⟩
                case measure => simp [intOf]; omega
            · have HE := Lib.hid (List.take_of_length_le (l := cc) (i := j) (by omega))
              go_wp2_with fail
              go_roundw
              case rel => exact ⟨k + 1, by go_num, by omega, HA2, Lib.hid (by rw [HFl.out, ← HE.out]; exact hG.out), Lib.hid (by rw [HFl.out, ← HE.out]; exact hO.out), Lib.hid (by rw [HFl.out, List.length_append]; have := hL.out; have := HC3.out; omega), hBr2⟩
              case measure => simp [intOf]; omega
      · have HR := Lib.hid (show rightB ep cs = true from HA.out (by rw [← List.take_of_length_le (l := cs) (i := k) (by omega)]; exact hS.out) (by rw [← List.take_of_length_le (l := cs) (i := k) (by omega)]; exact hG.out))
        go_wp2_with fail
        go_ret
        exact ⟨by rw [HR.out] <;> rfl, hBr.out⟩

set_option maxHeartbeats 2000000 in
/-- The tail of a right plan. -/
theorem rtail_any (ep : Int) (cs : List (List Int)) (ts : List Int) (v u : Value) (B : Nat) (w : World) (hv : Grid w B v cs) (hu : Row w B u (int64s ts)) (hB : B ≤ w.heap.size) (hR : rightB ep cs = true) (hts : ts.length ≤ 1000000) :
    Calls Tryd.prog 17 #[planV ep v, u] w fun e w' => e = .returned (.int .i64 (tailI ep cs ts ts.length)) ∧ Below w.heap.size w w' := by
  obtain ⟨hlen, A, c, rfl, hcl⟩ := hv.form
  obtain ⟨hlu, A2, c2, rfl, hcu⟩ := row_ints hu
  have hb0 := (Below.refl w.heap.size w).alloc (Nat.le_refl _) (.cells #[.int .i64 ep, .slice A cs.length c] 28)
  have B0 := Lib.hid hb0
  have HC := Lib.hid hcu
  have HB := Lib.hid hB
  obtain ⟨_, _, n1, n3, _⟩ := right_parts hR
  have HS := Lib.hid (show ∀ k, tailI ep cs ts (k + 1) = max (tailI ep cs ts k) (addrI ep cs k (lastI (ts.getD k 0)) + 1) from fun k => by rw [tailI])
  have HAd := Lib.hid (show ∀ k t, (k : Nat) < cs.length → addrI ep cs k (lastI t) + 1 = if 0 < t then (min t 4096 - 1) * cs.length + k + 1 else 0 from fun k t hk => by
    unfold addrI
    by_cases ht : 0 < t
    · rw [if_pos ht, if_pos ⟨hR, by omega, by omega, by unfold lastI; omega, by unfold lastI; omega⟩, show lastI t = min t 4096 - 1 by unfold lastI; omega]
    · rw [if_neg ht, if_neg (by unfold lastI; omega)]; rfl)
  have HOut := Lib.hid (show ∀ k, cs.length ≤ k → tailI ep cs ts k = tailI ep cs ts cs.length from fun k hk => by
    induction k with
    | zero => have : cs.length = 0 := by omega
              rw [this]
    | succ k ih =>
      by_cases e : cs.length = k + 1
      · rw [e]
      · rw [tailI, ih (by omega)]
        have h0 := (tail_bd ep cs ts cs.length).1
        unfold addrI
        rw [if_neg (by omega)]
        omega)
  have HTB := Lib.hid (tail_bd ep cs ts)
  have hcb : ∀ b o, b < w.heap.size → (w.alloc (.cells #[.int .i64 ep, .slice A cs.length c] 28)).cell? ⟨b, o, none⟩ = w.cell? ⟨b, o, none⟩ := below_cells hb0
  have HCB := Lib.hid hcb
  clear hv hB hcl hcu hu hb0 hcb hR
  generalize cs.length = n at *
  go_enter Tryd.func17, Tryd.ntmps17
  go_wp2_with fail
  go_loop [6, 7] (fun t i => ∃ k : Nat, i = .int .i64 k ∧ k ≤ n ∧ k ≤ ts.length ∧ t = .int .i64 (tailI ep cs ts k)) (fun _ i => n - (intOf i).toNat)
  case atStart => exact ⟨0, rfl, Nat.zero_le _, Nat.zero_le _, rfl⟩
  case round =>
    obtain ⟨k, rfl, hk, hk2, rfl⟩ := hrel
    by_cases h1 : k < n
    · by_cases h2 : k < ts.length
      · obtain ⟨b, o, rfl, hbl, hcu⟩ := HC.out k h2
        have hbw : b < w.heap.size := Nat.lt_of_lt_of_le hbl HB.out
        have hc1 := (HCB.out b (o + k) hbw).trans hcu
        have i1 : (k : Int) < (n : Int) := by omega
        have i2 : (k : Int) < (ts.length : Int) := by omega
        have hS := HS.out k
        rw [List.getD_eq_getElem?_getD, List.getElem?_eq_getElem h2] at hS
        have HS2 := Lib.hid (hS.trans (by rw [Option.getD_some, HAd.out k _ h1]))
        have tb := HTB.out k
        clear hcu hS
        generalize ts[k] = x at *
        generalize tailI ep cs ts k = t at *
        have kb : (k : Int) ≤ 2 := by omega
        have hn : n = 1 ∨ n = 2 ∨ n = 3 := by omega
        have three : x ≤ 0 ∨ (0 < x ∧ x ≤ 4096) ∨ 4096 < x := by omega
        rcases three with hx | ⟨hx, hx2⟩ | hx
        · have hx3 : ¬ 4096 < x := by omega
          have hx4 : ¬ 0 < x := by omega
          have HS3 := Lib.hid (show tailI ep cs ts (k + 1) = t by rw [HS2.out, if_neg hx4]; omega)
          go_wp2_with fail
          go_round
          case rel => exact ⟨k + 1, by go_num, by omega, by omega, by rw [HS3.out]⟩
          case measure => simp [intOf]; omega
        · have hx3 : ¬ 4096 < x := by omega
          have HS3 := Lib.hid (show tailI ep cs ts (k + 1) = max t ((x - 1) * (n : Int) + k + 1) by rw [HS2.out, if_pos hx, Int.min_eq_left hx2])
          rcases hn with rfl | rfl | rfl
          · by_cases hm : t < x - 1 + (k : Int) + 1
            · go_wp2_with fail
              go_round
              case rel => exact ⟨k + 1, by go_num, by omega, by omega, by rw [HS3.out, Int.max_eq_right (by omega)]; simp⟩
              case measure => simp [intOf]; omega
            · go_wp2_with fail
              go_round
              case rel => exact ⟨k + 1, by go_num, by omega, by omega, by rw [HS3.out, Int.max_eq_left (by omega)]⟩
              case measure => simp [intOf]; omega
          · by_cases hm : t < (x - 1) * 2 + (k : Int) + 1
            · go_wp2_with fail
              go_round
              case rel => exact ⟨k + 1, by go_num, by omega, by omega, by rw [HS3.out, Int.max_eq_right (by omega)]; simp⟩
              case measure => simp [intOf]; omega
            · go_wp2_with fail
              go_round
              case rel => exact ⟨k + 1, by go_num, by omega, by omega, by rw [HS3.out, Int.max_eq_left (by omega)]⟩
              case measure => simp [intOf]; omega
          · by_cases hm : t < (x - 1) * 3 + (k : Int) + 1
            · go_wp2_with fail
              go_round
              case rel => exact ⟨k + 1, by go_num, by omega, by omega, by rw [HS3.out, Int.max_eq_right (by omega)]; simp⟩
              case measure => simp [intOf]; omega
            · go_wp2_with fail
              go_round
              case rel => exact ⟨k + 1, by go_num, by omega, by omega, by rw [HS3.out, Int.max_eq_left (by omega)]⟩
              case measure => simp [intOf]; omega
        · have hx4 : 0 < x := by omega
          have HS3 := Lib.hid (show tailI ep cs ts (k + 1) = max t ((4096 - 1) * (n : Int) + k + 1) by rw [HS2.out, if_pos hx4, Int.min_eq_right (by omega)])
          rcases hn with rfl | rfl | rfl
          · by_cases hm : t < 4095 + (k : Int) + 1
            · go_wp2_with fail
              go_round
              case rel => exact ⟨k + 1, by go_num, by omega, by omega, by rw [HS3.out, Int.max_eq_right (by omega)]; simp⟩
              case measure => simp [intOf]; omega
            · go_wp2_with fail
              go_round
              case rel => exact ⟨k + 1, by go_num, by omega, by omega, by rw [HS3.out, Int.max_eq_left (by omega)]⟩
              case measure => simp [intOf]; omega
          · by_cases hm : t < 8190 + (k : Int) + 1
            · go_wp2_with fail
              go_round
              case rel => exact ⟨k + 1, by go_num, by omega, by omega, by rw [HS3.out, Int.max_eq_right (by omega)]; simp⟩
              case measure => simp [intOf]; omega
            · go_wp2_with fail
              go_round
              case rel => exact ⟨k + 1, by go_num, by omega, by omega, by rw [HS3.out, Int.max_eq_left (by omega)]⟩
              case measure => simp [intOf]; omega
          · by_cases hm : t < 12285 + (k : Int) + 1
            · go_wp2_with fail
              go_round
              case rel => exact ⟨k + 1, by go_num, by omega, by omega, by rw [HS3.out, Int.max_eq_right (by omega)]; simp⟩
              case measure => simp [intOf]; omega
            · go_wp2_with fail
              go_round
              case rel => exact ⟨k + 1, by go_num, by omega, by omega, by rw [HS3.out, Int.max_eq_left (by omega)]⟩
              case measure => simp [intOf]; omega
      · have HE := Lib.hid (show k = ts.length by omega)
        have i2 : ¬ (k : Int) < (ts.length : Int) := by omega
        go_wp2_with fail
        go_ret
        exact ⟨by rw [← HE.out] <;> rfl, B0.out⟩
    · have HE := Lib.hid (show tailI ep cs ts ts.length = tailI ep cs ts k by rw [HOut.out _ (by omega), HOut.out k (by omega)])
      go_wp2_with fail
      go_ret
      exact ⟨by rw [HE.out] <;> rfl, B0.out⟩
end Go.Proofs.YtjcingefdgmdkaaDoor
