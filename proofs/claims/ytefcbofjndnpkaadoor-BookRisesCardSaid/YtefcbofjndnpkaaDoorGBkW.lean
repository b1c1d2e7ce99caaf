/- Package plan's Bytes: a right plan's bytes, of the call's own; ErrForm of any other. -/
import Derived.Test.YtefcbofjndnpkaaDoorGPackD
import Derived.Test.YtefcbofjndnpkaaDoorGPlR
import Derived.Test.YtefcbofjndnpkaaDoorGPackN
namespace Go.Proofs.YtefcbofjndnpkaaDoor
open Go.RowKit Tide

section
variable {a : Nat → Addr} {W w w' : World} {F : Nat → Prop} {p : Nat} {st : Option (List UInt8)}
theorem PW.list (h : PW a W F p st w) (hE : Errs W a) (hA : Away a F) {v : Value} {zs : List Int} {B : Nat} (hv : Row w B v (int64s zs)) (hB : B ≤ W.heap.size) (hF : ∀ k, F k → B ≤ k) :
    Calls Tryd.prog 34 #[.pointer (some ⟨p, 0, none⟩), v] w (PWR a W F p (stNums st zs)) := by
  have hE' := h.errs hE hA
  have hs := h.size
  exact h.call fun F1 hO hF1 hK => (onums_any a w F1 p st 0 v zs B hO hv (Nat.le_trans hB hs) (fun k hk => (hF1 k hk).elim (hF k) (fun h => Nat.le_trans hB h)) hE').mono fun _ _ ⟨he, F2, hO2, hF2, hK2⟩ => ⟨he, F2, outS_n hO2, hF2, hK2⟩
end

/-- What Bytes answers of a right plan. -/
def PlanBR (ep : Int) (cs : List (List Int)) (w : World) (e : Ending) (w' : World) : Prop :=
  ∃ u, e = .returned (.tuple #[u, .nilIface]) ∧ w'.ownsRow w.heap.size 5 1 u (planB ep cs).length (u8s (planB ep cs)) ∧ Below w.heap.size w w'

set_option maxRecDepth 100000 in
set_option maxHeartbeats 4000000 in
theorem planBytes_ok (a : Nat → Addr) (ep : Int) (cs : List (List Int)) (v : Value) (B : Nat) (w : World) (hv : Grid w B v cs) (hB : B ≤ w.heap.size) (hE0 : Errs w a) (hr : rightB ep cs = true) :
    Calls Tryd.prog 22 #[planV ep v] w (PlanBR ep cs w) := by
  obtain ⟨hlen, A, c, rfl, hcell⟩ := hv.form
  have HC := Lib.hid hcell
  have HBW := Lib.hid hB
  have HE := Lib.hid hE0
  have B0 := Lib.hid ((Below.refl w.heap.size w).alloc (Nat.le_refl _) (.cells #[.int .i64 ep, .slice A cs.length c] 27))
  have h3 : cs.length ≤ 3 := (right_parts hr).2.2.2.1
  have HR := Lib.hid hr
  have HO1 := Lib.hid (plan_out0 hr)
  have HO2 := Lib.hid (fun k (hk : k < cs.length) => plan_out1 hr k hk (num7 ep.toNat ++ num7 cs.length))
  have HO3 := Lib.hid (plan_out2 ep cs)
  have HL := Lib.hid (plan_len hr)
  obtain ⟨wa, hwa⟩ : ∃ wa, wa = w.alloc (.cells #[.int .i64 ep, .slice A cs.length c] 27) := ⟨_, rfl⟩
  have P0 := Lib.hid (show Two wa w.heap.size 27 (.int .i64 ep) (.slice A cs.length c) from by rw [hwa]; exact Two.new w 27 (.int .i64 ep) (.slice A cs.length c))
  rw [← hwa] at B0
  have CR := Lib.hid (right_any ep cs _ B wa (hv.below (B0.out.mono hB)) (Nat.le_trans hB B0.out.size))
  rw [hr] at CR
  have HWA := Lib.hid hwa
  obtain ⟨_, p0, p1, _⟩ := P0.out.facts
  clear hv hcell hB hE0 hr hwa
  go_enter Tryd.func22, Tryd.ntmps22
  go_wp2_with fail
  rw [← HWA.out]
  refine CR.out.mono ?_
  rintro en w1 ⟨rfl, hb⟩
  have D1 := Lib.hid (B0.out.trans (hb.mono B0.out.size))
  have P1 := Lib.hid (P0.out.below hb P0.out.lt)
  clear hb p0 p1 P0 B0 HWA CR
  obtain ⟨_, p0, p1, _⟩ := P1.out.facts
  have HE1 := Lib.hid (HE.out.below D1.out)
  have hs1 := D1.out.size
  obtain ⟨w4, hw4⟩ : ∃ w4, w4 = w1.alloc (.cells #[.slice none 0 0, .nilIface] 81) := ⟨_, rfl⟩
  have HO4 := Lib.hid (show OutS a w4 (fun k => k = w1.heap.size) w1.heap.size (some []) 0 from by rw [hw4]; exact outS_new a w1 HE1.out)
  have HB14 := Lib.hid (show Below w1.heap.size w1 w4 from by rw [hw4]; exact (Below.refl _ _).alloc (Nat.le_refl _) _)
  have HE4 := Lib.hid (HE1.out.below HB14.out)
  have S4 := Lib.hid (PW.start HO4.out)
  have HB4 := Lib.hid (D1.out.trans (HB14.out.mono D1.out.size))
  have P4 := Lib.hid (P1.out.below HB14.out P1.out.lt)
  have LOW := Lib.hid (show ∀ st W, PW a w4 (fun k => k = w1.heap.size) w1.heap.size st W → ∀ b o, b < w1.heap.size → W.cell? ⟨b, o, none⟩ = w4.cell? ⟨b, o, none⟩ from fun st W h b o hb => h.cell (b := b) (o := o) (by have := HB14.out.size; omega) (fun h => by have h9 : b = w1.heap.size := h; omega))
  have CN1 := Lib.hid (S4.out.num HE4.out HO4.out.2.2.1 ep)
  have HW4 := Lib.hid hw4
  clear hw4
  go_wp2_with fail
  rw [← HW4.out]
  refine CN1.out.mono ?_
  rintro en w5 ⟨rfl, hp⟩
  have S5 := Lib.hid hp
  have CN2 := Lib.hid (S5.out.num HE4.out HO4.out.2.2.1 (cs.length : Nat))
  obtain ⟨_, q0, q1, _⟩ := P4.out.facts
  have e0 := (LOW.out _ _ S5.out w.heap.size 1 (by have := P1.out.lt; omega)).trans q1
  clear hp CN1 p0 p1 q0 q1
  go_wp2_with fail
  refine CN2.out.mono ?_
  rintro en w6 ⟨rfl, hp⟩
  rw [HO1.out] at hp
  have S6 := Lib.hid hp
  obtain ⟨_, q0, q1, _⟩ := P4.out.facts
  have e1 := (LOW.out _ _ S6.out w.heap.size 1 (by have := P1.out.lt; omega)).trans q1
  clear hp CN2 e0 q0 q1
  go_wp2_with fail
  have T6 := Lib.hid (show PW a w4 (fun k => k = w1.heap.size) w1.heap.size (some ((num7 ep.toNat ++ num7 cs.length) ++ chainsB (cs.take 0))) w6 from by
    have := S6.out
    simpa [chainsB] using this)
  generalize num7 ep.toNat ++ num7 cs.length = q at *
  clear S6 S5 S4 P4 HW4 HO1 e1
  go_loopw [21] (fun i wr => ∃ k : Nat, i = .int .i64 k ∧ k ≤ cs.length ∧ Hid (PW a w4 (fun k => k = w1.heap.size) w1.heap.size (some (q ++ chainsB (cs.take k))) wr)) (fun i _ => cs.length - (intOf i).toNat)
  case atStart => exact ⟨0, rfl, Nat.zero_le _, T6⟩
  case round =>
    clear T6
    obtain ⟨k, rfl, hk, hS⟩ := hrel
    by_cases hlt : k < cs.length
    · obtain ⟨b, o, u, rfl, hbl, h0, hr⟩ := HC.out k hlt
      have hbw : b < w.heap.size := Nat.lt_of_lt_of_le hbl HBW.out
      have f0 := ((LOW.out _ _ hS.out b (o + k) (by omega)).trans (HB4.out.cell (p := ⟨b, o + k, none⟩) hbw)).trans h0
      have hr2 : Row wr B u (int64s cs[k]) := Row.keep hr (fun b o hb => (LOW.out _ _ hS.out b o (by have := HBW.out; omega)).trans (HB4.out.cell (p := ⟨b, o, none⟩) (Nat.lt_of_lt_of_le hb HBW.out)))
      have CX := Lib.hid (hS.out.list HE4.out HO4.out.2.2.1 hr2 (by have := HB4.out.size; have := HBW.out; omega) (fun k hk => by have h9 : k = w1.heap.size := hk; have := HBW.out; omega))
      rw [HO2.out k hlt] at CX
      obtain ⟨_, Au, cu, rfl, _⟩ := row_ints hr
      have i1 : (k : Int) < (cs.length : Int) := by omega
      clear h0 hr hr2
      generalize cs[k] = z at *
      go_wp2_with fail
      refine CX.out.mono ?_
      rintro en w7 ⟨rfl, hp⟩
      have S7 := Lib.hid hp
      clear hp
      go_wp2_with fail
      go_roundw
      case rel => exact ⟨k + 1, by go_num, by omega, S7⟩
      case measure => simp [intOf]; omega
    · obtain rfl : k = cs.length := by omega
      have hS2 := hS.out
      rw [HO3.out] at hS2
      have CD := Lib.hid (show Calls Tryd.prog 35 #[.pointer (some ⟨w1.heap.size, 0, none⟩)] wr (fun en w' => ∃ u, en = .returned (.tuple #[u, .nilIface]) ∧ w'.ownsRow w.heap.size 5 1 u (planB ep cs).length (u8s (planB ep cs)) ∧ Below w.heap.size w w') from by
        obtain ⟨F1, hO, hF1, hK⟩ := hS2
        refine (odone_ok a wr F1 w1.heap.size _ 0 hO (by have := HL.out; omega)).mono fun en w' ⟨u, he, ho, hb⟩ => ?_
        have hwr : Below w.heap.size w wr := HB4.out.trans (hK.below HB4.out.size (fun k hk => by have h9 : k = w1.heap.size := hk; omega))
        exact ⟨u, he, own_later ho hwr.size, hwr.trans (hb.mono hwr.size)⟩)
      clear hS hS2
      go_wp2_with fail
      refine CD.out.mono ?_
      rintro en w8 ⟨u, rfl, hu, hb⟩
      have HU := Lib.hid hu
      have HB8 := Lib.hid hb
      clear hu hb
      go_wp2_with fail
      go_ret2
      exact ⟨_, rfl, HU.out, HB8.out⟩
theorem planBytes_bad (a : Nat → Addr) (ep : Int) (cs : List (List Int)) (v : Value) (B : Nat) (w : World) (hv : Grid w B v cs) (hB : B ≤ w.heap.size) (hE0 : Errs w a) (hr : rightB ep cs = false) :
    Calls Tryd.prog 22 #[planV ep v] w fun e w' => e = .returned (.tuple #[.slice none 0 0, errAt (a 3)]) ∧ Below w.heap.size w w' := by
  obtain ⟨hlen, A, c, rfl, hcell⟩ := hv.form
  have HE := Lib.hid hE0
  have B0 := Lib.hid ((Below.refl w.heap.size w).alloc (Nat.le_refl _) (.cells #[.int .i64 ep, .slice A cs.length c] 27))
  obtain ⟨wa, hwa⟩ : ∃ wa, wa = w.alloc (.cells #[.int .i64 ep, .slice A cs.length c] 27) := ⟨_, rfl⟩
  have P0 := Lib.hid (show Two wa w.heap.size 27 (.int .i64 ep) (.slice A cs.length c) from by rw [hwa]; exact Two.new w 27 (.int .i64 ep) (.slice A cs.length c))
  rw [← hwa] at B0
  have CR := Lib.hid (right_any ep cs _ B wa (hv.below (B0.out.mono hB)) (Nat.le_trans hB B0.out.size))
  rw [hr] at CR
  have HWA := Lib.hid hwa
  obtain ⟨_, p0, p1, _⟩ := P0.out.facts
  clear hv hcell hB hE0 hr hwa
  go_enter Tryd.func22, Tryd.ntmps22
  go_wp2_with fail
  rw [← HWA.out]
  refine CR.out.mono ?_
  rintro en w1 ⟨rfl, hb⟩
  have D1 := Lib.hid (B0.out.trans (hb.mono B0.out.size))
  have HB := Lib.hid (fun n => show Below w.heap.size w (w1.drewN n) from ⟨D1.out.os, D1.out.tape, D1.out.output, D1.out.size, D1.out.block⟩)
  have hg := (HE.out.below D1.out).var 3 (by omega)
  simp only [evars, List.getD_cons_zero, List.getD_cons_succ] at hg
  clear hb p0 p1 P0 B0 HWA CR
  go_wp2_with fail
  go_quiet (fail)
  go_wp2_with fail
  go_ret2
  exact ⟨rfl, HB.out _⟩
end Go.Proofs.YtefcbofjndnpkaaDoor
