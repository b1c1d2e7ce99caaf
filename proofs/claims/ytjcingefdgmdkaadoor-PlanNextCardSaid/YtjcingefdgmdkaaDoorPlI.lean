/- The document's own Same and Replace of plans. -/
import Derived.Test.YtjcingefdgmdkaaDoorPlJ
import Derived.Test.YtjcingefdgmdkaaDoorPlM
import Derived.Test.YtjcingefdgmdkaaDoorPlX
namespace Go.Proofs.YtjcingefdgmdkaaDoor
open Go.RowKit Tide

set_option maxRecDepth 100000 in
set_option maxHeartbeats 2000000 in
/-- Two plans that are the same. -/
theorem rsame_eq (ep : Int) (cs : List (List Int)) (u v : Value) (B B' : Nat) (w : World) (hu : Grid w B u cs) (hv : Grid w B' v cs) (hB : B ≤ w.heap.size) (hB' : B' ≤ w.heap.size) :
    Calls Tryd.prog 21 #[planV ep u, planV ep v] w fun e w' => e = .returned (.bool true) ∧ Below w.heap.size w w' := by
  have HU := Lib.hid (fun W (h : Below w.heap.size w W) => (hu.below (h.mono hB)))
  have HV := Lib.hid (fun W (h : Below w.heap.size w W) => (hv.below (h.mono hB')))
  obtain ⟨hlen, A, c, rfl, _⟩ := hu.form
  obtain ⟨_, A', c', rfl, _⟩ := hv.form
  have HB1 := Lib.hid hB
  have HB2 := Lib.hid hB'
  have B0 := Lib.hid (((Below.refl w.heap.size w).alloc (Nat.le_refl _) (.cells #[.int .i64 ep, .slice A cs.length c] 28)).alloc (by simp) (.cells #[.int .i64 ep, .slice A' cs.length c'] 28))
  have P0 := Lib.hid ((Two.new w 28 (.int .i64 ep) (.slice A cs.length c)).alloc (.cells #[.int .i64 ep, .slice A' cs.length c'] 28))
  have Q0 := Lib.hid (show Two _ (w.heap.size + 1) 28 _ _ from by
    have := Two.new (w.alloc (.cells #[.int .i64 ep, .slice A cs.length c] 28)) 28 (.int .i64 ep) (.slice A' cs.length c')
    rwa [World.size_alloc] at this)
  clear hu hv hB hB'
  go_enter Tryd.func21, Tryd.ntmps21
  go_wp2_with fail
  go_loopw [23] (fun i wr => ∃ k : Nat, i = .int .i64 k ∧ k ≤ cs.length ∧ Hid (Two wr w.heap.size 28 (.int .i64 ep) (.slice A cs.length c)) ∧ Hid (Two wr (w.heap.size + 1) 28 (.int .i64 ep) (.slice A' cs.length c')) ∧ Hid (Below w.heap.size w wr)) (fun i _ => cs.length - (intOf i).toNat)
  case atStart => exact ⟨0, rfl, Nat.zero_le _, P0, Q0, B0⟩
  case round =>
    clear P0 Q0 B0
    obtain ⟨k, rfl, hk, hP, hQ, hBr⟩ := hrel
    by_cases hlt : k < cs.length
    · obtain ⟨_, A1, c1, e1, hcA⟩ := (HU.out wr hBr.out).form
      obtain ⟨_, A2, c2, e2, hcB⟩ := (HV.out wr hBr.out).form
      injection e1 with e1 _ e1c
      injection e2 with e2 _ e2c
      subst e1 e2 e1c e2c
      obtain ⟨b, o, u, rfl, hb1, h1, hr1⟩ := hcA k hlt
      obtain ⟨b2, o2, v, rfl, hb2, h2, hr2⟩ := hcB k hlt
      have CS := Lib.hid (fun W (hb : Below wr.heap.size wr W) => sameI_any u v cs[k] cs[k] B B' W (Row.keep hr1 (below_cells (hb.mono (Nat.le_trans HB1.out hBr.out.size)))) (Row.keep hr2 (below_cells (hb.mono (Nat.le_trans HB2.out hBr.out.size)))))
      obtain ⟨_, Au, cu, rfl, _⟩ := row_ints hr1
      obtain ⟨_, Av, cv, rfl, _⟩ := row_ints hr2
      have i1 : (k : Int) < (cs.length : Int) := by omega
      obtain ⟨_, hp0, hp1, _⟩ := hP.out.facts
      obtain ⟨_, hq0, hq1, _⟩ := hQ.out.facts
      have DB0 := Lib.hid ((Below.refl wr.heap.size wr).drew)
      clear hr1 hr2 hcA hcB
      rw [decide_eq_true (rfl : cs[k] = cs[k])] at CS
      generalize cs[k] = cc at *
      go_wp2_with fail
      go_region_with (first
        | (go_at_call 15; (with_reducible refine (CS.out _ ?_).mono ?_); exact DB0.out; rintro e w2 ⟨rfl, hb⟩; have D1 := Lib.hid (DB0.out.trans hb); clear hb))
      all_goals
        have B2 := Lib.hid (hBr.out.trans (D1.out.mono hBr.out.size))
        have P2 := Lib.hid (hP.out.below D1.out hP.out.lt)
        have Q2 := Lib.hid (hQ.out.below D1.out hQ.out.lt)
        clear D1 hp0 hp1 hq0 hq1 h1 h2
        go_wp2_with fail
        go_roundw
        case rel => exact ⟨k + 1, by go_num, by omega, P2, Q2, B2⟩
        case measure => simp [intOf]; omega
    · go_wp2_with fail
      go_ret
      exact ⟨rfl, hBr.out⟩
end Go.Proofs.YtjcingefdgmdkaaDoor
