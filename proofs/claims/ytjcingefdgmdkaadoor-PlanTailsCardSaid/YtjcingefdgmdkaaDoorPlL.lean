/- The law of tails, walked: no address from the tail on stands below its chain's tail, and the one ahead of it does. -/
import Derived.Test.YtjcingefdgmdkaaDoorPlB
import Derived.Test.YtjcingefdgmdkaaDoorUmod
namespace Go.Proofs.YtjcingefdgmdkaaDoor
open Go.RowKit Tide

set_option maxHeartbeats 2000000 in
theorem planTails_law (E : Nat → Addr) (ep : Int) (cs : List (List Int)) (ts : List Int) (v u : Value) (a : Int) (w : World) (hv : Grid w w.heap.size v cs) (hu : Row w w.heap.size u (int64s ts)) (hE : Er2 w E) :
    Calls Tryd.prog 5 #[planV ep v, u, .int .i64 a] w fun e w' => e = .returned (.bool true) ∧ Below w.heap.size w w' := by
  obtain ⟨hlu, A2, c2, rfl, hcu⟩ := row_ints hu
  obtain ⟨hlen, A, c, rfl, hcl⟩ := hv.form
  clear hcl
  have B0 := Lib.hid ((Below.refl w.heap.size w).alloc (Nat.le_refl _) (.cells #[.int .i64 ep, .slice A cs.length c] 24))
  have P0 := Lib.hid (Two.new w 24 (.int .i64 ep) (.slice A cs.length c))
  have CA := Lib.hid (fun W (h : Below w.heap.size w W) => alive_any E W (hE.below h))
  have CL := Lib.hid (fun W (h : Below w.heap.size w W) => long_any ep cs _ _ W (hv.below h) h.size)
  have CR := Lib.hid (fun W (h : Below w.heap.size w W) => right_any ep cs _ _ W (hv.below h) h.size)
  have CT := Lib.hid (fun W (h : Below w.heap.size w W) => tail_any ep cs ts _ _ _ W (hv.below h) (Row.keep hu (below_cells h)) h.size)
  have CB := Lib.hid (fun x W (h : Below w.heap.size w W) => below_any E ep cs ts _ _ x _ W (hv.below h) (Row.keep hu (below_cells h)) h.size (hE.below h))
  have HC := Lib.hid hcu
  clear hv hu hE hcu
  go_enter Tryd.func5, Tryd.ntmps5
  go_wp2_with fail
  refine (CA.out _ B0.out).mono ?_
  rintro e w1 ⟨rfl, hb⟩
  have B1 := Lib.hid (B0.out.trans (hb.mono B0.out.size))
  have P1 := Lib.hid (P0.out.below hb P0.out.lt)
  obtain ⟨_, hc0, hc1, _⟩ := P1.out.facts
  clear hb CA
  go_wp2_with fail
  refine (CL.out _ B1.out).mono ?_
  rintro e w2 ⟨rfl, hb⟩
  have B2 := Lib.hid (B1.out.trans (hb.mono B1.out.size))
  have P2 := Lib.hid (P1.out.below hb P1.out.lt)
  clear hb CL hc0 hc1
  obtain ⟨_, hc0, hc1, _⟩ := P2.out.facts
  generalize longB cs = lb at *
  cases lb with
  | true =>
    go_wp2_with fail
    go_ret
    exact ⟨rfl, B2.out⟩
  | false =>
  cases q1 : decide ((10 : Int) < (ts.length : Int)) with
  | true =>
    go_wp2_with fail
    go_ret
    exact ⟨rfl, B2.out⟩
  | false =>
  go_wp2_with fail
  refine (CR.out _ B2.out).mono ?_
  rintro e w3 ⟨rfl, hb⟩
  have B3 := Lib.hid (B2.out.trans (hb.mono B2.out.size))
  have P3 := Lib.hid (P2.out.below hb P2.out.lt)
  clear hb CR hc0 hc1
  obtain ⟨_, hc0, hc1, _⟩ := P3.out.facts
  cases hr : rightB ep cs with
  | false =>
    clear hr
    go_wp2_with fail
    go_ret
    exact ⟨rfl, B3.out⟩
  | true =>
  have HR := Lib.hid hr
  clear hr
  go_wp2_with fail
  clear hc0 hc1
  go_loop [26] (fun i => ∃ k : Nat, i = .int .i64 k ∧ k ≤ ts.length ∧ Hid (∀ t ∈ ts.take k, t ≤ 300)) (fun i => ts.length - (intOf i).toNat)
  case atStart => exact ⟨0, rfl, Nat.zero_le _, Lib.hid (fun t h => by simp at h)⟩
  case round =>
    obtain ⟨k, rfl, hk, hS⟩ := hrel
    by_cases hlt : k < ts.length
    · obtain ⟨b, o, rfl, hbw, hcu⟩ := HC.out k hlt
      have hcc := (B3.out.cell (p := ⟨b, o + k, none⟩) hbw).trans hcu
      have i1 : (k : Int) < (ts.length : Int) := by omega
      have HS := Lib.hid (show ts[k] ≤ 300 → ∀ t ∈ ts.take (k + 1), t ≤ 300 from fun h t ht => by
        rw [take_one ts k hlt] at ht
        rcases List.mem_append.1 ht with h1 | h1
        · exact hS.out t h1
        · simp at h1; subst h1; exact h)
      clear hcu
      generalize ts[k] = x at *
      cases q2 : decide (300 < x) with
      | true =>
        go_wp2_with fail
        go_ret
        exact ⟨rfl, B3.out⟩
      | false =>
        have HS2 := Lib.hid (HS.out (by simp at q2; omega))
        go_wp2_with fail
        go_round
        case rel => exact ⟨k + 1, by go_num, by omega, HS2⟩
        case measure => simp [intOf]; omega
    · have HS := Lib.hid (show ∀ t ∈ ts, t ≤ 300 from by have := hS.out; rwa [List.take_of_length_le (by omega)] at this)
      obtain ⟨_, hc0, hc1, _⟩ := P3.out.facts
      obtain ⟨m, hm, hq1, hq2, hq3⟩ := umod_of a 2000 (by omega) (by omega)
      go_wp2_with fail
      refine (CT.out _ B3.out).mono ?_
      rintro e w4 ⟨rfl, hb⟩
      have B4 := Lib.hid (B3.out.trans (hb.mono B3.out.size))
      have P4 := Lib.hid (P3.out.below hb P3.out.lt)
      have HU := Lib.hid (fun x (h : belowB ep cs ts x = true) => tail_up h)
      have HD := Lib.hid (fun h => tail_down (ep := ep) (cs := cs) HS.out h)
      have tb := tail_bd ep cs ts ts.length
      clear hb CT hc0 hc1
      obtain ⟨_, hc0, hc1, _⟩ := P4.out.facts
      generalize tailI ep cs ts ts.length = T at *
      cases q3 : decide ((m : Int) < T) with
      | true =>
        have hT : (m : Int) < T := by simpa using q3
        have hz : (T == 0) = false := by simp; omega
        have HD1 := Lib.hid (HD.out (by omega))
        have CB1 := Lib.hid (CB.out (T - 1) _ B4.out)
        rw [HD1.out] at CB1
        go_wp2_with fail
        refine CB1.out.mono ?_
        rintro e w6 ⟨rfl, hb⟩
        have B6 := Lib.hid (B4.out.trans (hb.mono B4.out.size))
        clear hb
        go_wp2_with fail
        go_ret
        exact ⟨rfl, B6.out⟩
      | false =>
        have hT : T ≤ (m : Int) := by simpa using q3
        have HN := Lib.hid (show belowB ep cs ts (m : Int) = false from by
          rw [Bool.eq_false_iff]; intro h; have := HU.out _ h; omega)
        have CB0 := Lib.hid (CB.out (m : Int) _ B4.out)
        rw [HN.out] at CB0
        go_wp2_with fail
        refine CB0.out.mono ?_
        rintro e w5 ⟨rfl, hb⟩
        have B5 := Lib.hid (B4.out.trans (hb.mono B4.out.size))
        have P5 := Lib.hid (P4.out.below hb P4.out.lt)
        clear hb hc0 hc1
        obtain ⟨_, hc0, hc1, _⟩ := P5.out.facts
        by_cases h0 : T = 0
        · subst h0
          go_wp2_with fail
          go_ret
          exact ⟨rfl, B5.out⟩
        · have hz : (T == 0) = false := by simp; omega
          have HD1 := Lib.hid (HD.out (by omega))
          have CB1 := Lib.hid (CB.out (T - 1) _ B5.out)
          rw [HD1.out] at CB1
          go_wp2_with fail
          refine CB1.out.mono ?_
          rintro e w6 ⟨rfl, hb⟩
          have B6 := Lib.hid (B5.out.trans (hb.mono B5.out.size))
          clear hb
          go_wp2_with fail
          go_ret
          exact ⟨rfl, B6.out⟩
end Go.Proofs.YtjcingefdgmdkaaDoor
