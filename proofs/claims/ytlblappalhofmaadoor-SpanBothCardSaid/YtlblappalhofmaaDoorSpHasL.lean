/- The law of Right, Has and Cut of spans, walked: the code's answers and the document's are the same, for all texts. -/
import Derived.Test.YtlblappalhofmaaDoorAlSpW
import Derived.Test.YtlblappalhofmaaDoorRCutSW
import Derived.Deep.RegionHeld
namespace Go.Proofs.YtlblappalhofmaaDoor
open Go.RowKit Go.Shelf Tide Utf

theorem long_size {lo hi : ByteArray} (h : longB lo hi = false) : lo.size ≤ 300 ∧ hi.size ≤ 300 := by
  unfold longB at h
  simp at h
  omega

/-- Two blocks of two cells each, made one behind the other. -/
theorem two_new (w : World) (t : TypeId) (x y x' y' : Value) : Two ((w.alloc (.cells #[x, y] t)).alloc (.cells #[x', y'] t)) w.heap.size t x y ∧ Two ((w.alloc (.cells #[x, y] t)).alloc (.cells #[x', y'] t)) (w.heap.size + 1) t x' y' ∧ Below w.heap.size w ((w.alloc (.cells #[x, y] t)).alloc (.cells #[x', y'] t)) := by
  have t2 := Two.new (w.alloc (.cells #[x, y] t)) t x' y'
  simp only [World.size_alloc] at t2
  exact ⟨(Two.new w t x y).alloc _, t2, ((Below.refl w.heap.size w).alloc (Nat.le_refl _) _).alloc (by simp) _⟩

set_option maxRecDepth 100000 in
set_option maxHeartbeats 4000000 in
theorem spanHas_law (a : Nat → Addr) (lo hi k : ByteArray) (w : World) (hT : Tabs w) (hE : Errs w a) :
    Calls Tryd.prog 3 #[spanV lo hi, .string k] w fun e w' => e = .returned (.bool true) ∧ Below w.heap.size w w' := by
  have HT := Lib.hid hT
  have HE := Lib.hid hE
  have B0 := Lib.hid ((Below.refl w.heap.size w).alloc (Nat.le_refl _) (.cells #[.string lo, .string hi] 23))
  have T0 := Lib.hid (Two.new w 23 (.string lo) (.string hi))
  have CA := Lib.hid (fun W (h : Below w.heap.size w W) => alive_any a W (HT.out.below h) (HE.out.below h))
  clear hT hE
  cases hL : longB lo hi with
  | true =>
    have CL := Lib.hid (fun W => long_is lo hi W true hL)
    clear hL
    go_enter Tryd.func3, Tryd.ntmps3
    go_wp2_with fail
    refine (CA.out _ B0.out).mono ?_
    rintro e w1 ⟨rfl, hb⟩
    have HB1 := Lib.hid (B0.out.trans (hb.mono B0.out.size))
    obtain ⟨hc0, hc1, hf0⟩ := (T0.out.below hb T0.out.lt).facts
    clear hb
    go_wp2_with fail
    refine (CL.out _).mono ?_
    rintro e w2 ⟨rfl, hb⟩
    have HB2 := Lib.hid (HB1.out.trans (hb.mono HB1.out.size))
    clear hb
    go_wp2_with fail
    go_ret
    exact ⟨rfl, HB2.out⟩
  | false =>
    have CL := Lib.hid (fun W => long_is lo hi W false hL)
    obtain ⟨hlo3, hhi3⟩ := long_size hL
    clear hL
    by_cases hbig : 300 < k.size
    · have hq : decide ((300 : Int) < (k.size : Int)) = true := by simp; omega
      clear hbig
      go_enter Tryd.func3, Tryd.ntmps3
      go_wp2_with fail
      refine (CA.out _ B0.out).mono ?_
      rintro e w1 ⟨rfl, hb⟩
      have HB1 := Lib.hid (B0.out.trans (hb.mono B0.out.size))
      obtain ⟨hc0, hc1, hf0⟩ := (T0.out.below hb T0.out.lt).facts
      clear hb
      go_wp2_with fail
      refine (CL.out _).mono ?_
      rintro e w2 ⟨rfl, hb⟩
      have HB2 := Lib.hid (HB1.out.trans (hb.mono HB1.out.size))
      clear hb
      go_wp2_with fail
      go_ret
      exact ⟨rfl, HB2.out⟩
    have hq : decide ((300 : Int) < (k.size : Int)) = false := by simp; omega
    have CC := Lib.hid (fun W (h : Below w.heap.size w W) => cut_any a lo hi k W (by omega) (by omega) (by omega) (HT.out.below h) (HE.out.below h))
    have CR := Lib.hid (fun W => rcut_is lo hi k W (by omega) (by omega) (by omega))
    have CG := Lib.hid (fun W (h : Below w.heap.size w W) => right_is a lo hi W (by omega) (by omega) (HT.out.below h) (HE.out.below h) (spanB lo hi) rfl)
    have CGr := Lib.hid (fun W => rright_is lo hi W (by omega) (by omega) (spanB lo hi) rfl)
    have CH := Lib.hid (fun W (h : Below w.heap.size w W) => has_is a lo hi k W (by omega) (by omega) (by omega) (HT.out.below h) (HE.out.below h) (hasB lo hi k) rfl)
    have CHr := Lib.hid (fun W => rhas_is lo hi k W (by omega) (by omega) (by omega) (hasB lo hi k) rfl)
    clear hbig hlo3 hhi3
    go_enter Tryd.func3, Tryd.ntmps3
    go_wp2_with fail
    refine (CA.out _ B0.out).mono ?_
    rintro e w1 ⟨rfl, hb⟩
    have HB1 := Lib.hid (B0.out.trans (hb.mono B0.out.size))
    have T1 := Lib.hid (T0.out.below hb T0.out.lt)
    obtain ⟨hc0, hc1, hf0⟩ := T1.out.facts
    clear hb
    go_wp2_with fail
    refine (CL.out _).mono ?_
    rintro e w2 ⟨rfl, hb⟩
    have HB2 := Lib.hid (HB1.out.trans (hb.mono HB1.out.size))
    have T2 := Lib.hid (T1.out.below hb T1.out.lt)
    clear hb hc0 hc1 hf0
    obtain ⟨hc0, hc1, hf0⟩ := T2.out.facts
    go_wp2_with fail
    refine (CC.out _ HB2.out).mono ?_
    rintro e w3 ⟨x, rfl, hx, hb⟩
    have HB3 := Lib.hid (HB2.out.trans (hb.mono HB2.out.size))
    have T3 := Lib.hid (T2.out.below hb T2.out.lt)
    have HX := Lib.hid hx
    clear hb hc0 hc1 hf0 hx
    generalize pick (cutNum lo hi k) lo = p1 at *
    generalize pick (cutNum lo hi k) k = p2 at *
    generalize pick (cutNum lo hi k) hi = p3 at *
    generalize cutNum lo hi k = cn at *
    generalize spanB lo hi = sp at *
    generalize hasB lo hi k = hs at *
    obtain ⟨hc0, hc1, hf0⟩ := T3.out.facts
    have hz3 := T3.out.lt
    obtain ⟨ta, tb, hbz⟩ := two_new w3 23 (.string p1) (.string p2) (.string p2) (.string p3)
    have HB4 := Lib.hid (HB3.out.trans (hbz.mono HB3.out.size))
    have TA := Lib.hid ta
    have TB := Lib.hid tb
    have TS := Lib.hid (T3.out.below hbz hz3)
    clear ta tb hbz
    go_wp2_with fail
    refine (CR.out _).mono ?_
    rintro e w4 ⟨rfl, hb⟩
    have HB5 := Lib.hid (HB4.out.trans (hb.mono HB4.out.size))
    have TA5 := Lib.hid (TA.out.below hb TA.out.lt)
    have TB5 := Lib.hid (TB.out.below hb TB.out.lt)
    have TS5 := Lib.hid (TS.out.below hb TS.out.lt)
    clear hb hc0 hc1 hf0 hz3
    obtain ⟨tv, tw, hbz⟩ := two_new w4 23 (.string p1) (.string p2) (.string p2) (.string p3)
    have HB6 := Lib.hid (HB5.out.trans (hbz.mono HB5.out.size))
    have TV := Lib.hid tv
    have TW := Lib.hid tw
    have TA6 := Lib.hid (TA5.out.below hbz TA5.out.lt)
    have TB6 := Lib.hid (TB5.out.below hbz TB5.out.lt)
    have TS6 := Lib.hid (TS5.out.below hbz TS5.out.lt)
    clear tv tw hbz
    go_wp2_with fail
    generalize hW : (w4.alloc (.cells #[.string p1, .string p2] 23)).alloc (.cells #[.string p2, .string p3] 23) = w5 at *
    clear hW
    have KS := Lib.hid (show ∀ W : World, Below w5.heap.size w5 W → (W.cell? ⟨w.heap.size, 0, none⟩ = some (.string lo) ∧ W.cell? ⟨w.heap.size, 1, none⟩ = some (.string hi) ∧ W.cell? ⟨w3.heap.size, 0, none⟩ = some (.string p1) ∧ W.cell? ⟨w3.heap.size, 1, none⟩ = some (.string p2) ∧ W.cell? ⟨w3.heap.size + 1, 0, none⟩ = some (.string p2) ∧ W.cell? ⟨w3.heap.size + 1, 1, none⟩ = some (.string p3) ∧
        W.cell? ⟨w4.heap.size, 0, none⟩ = some (.string p1) ∧ W.cell? ⟨w4.heap.size, 1, none⟩ = some (.string p2) ∧ W.cell? ⟨w4.heap.size + 1, 0, none⟩ = some (.string p2) ∧ W.cell? ⟨w4.heap.size + 1, 1, none⟩ = some (.string p3)) from fun W hb => by
      have f0 := (TS6.out.below hb TS6.out.lt).facts
      have f1 := (TA6.out.below hb TA6.out.lt).facts
      have f2 := (TB6.out.below hb TB6.out.lt).facts
      have f3 := (TV.out.below hb TV.out.lt).facts
      have f4 := (TW.out.below hb TW.out.lt).facts
      exact ⟨f0.1, f0.2.1, f1.1, f1.2.1, f2.1, f2.2.1, f3.1, f3.2.1, f4.1, f4.2.1⟩)
    have D0 := Lib.hid ((Below.refl w5.heap.size w5).drew)
    have UP := Lib.hid (fun W (h : Below w5.heap.size w5 W) => HB6.out.trans (h.mono HB6.out.size))
    go_region_held (fun W => W.cell? ⟨w.heap.size, 0, none⟩ = some (.string lo) ∧ W.cell? ⟨w.heap.size, 1, none⟩ = some (.string hi) ∧ W.cell? ⟨w3.heap.size, 0, none⟩ = some (.string p1) ∧ W.cell? ⟨w3.heap.size, 1, none⟩ = some (.string p2) ∧ W.cell? ⟨w3.heap.size + 1, 0, none⟩ = some (.string p2) ∧ W.cell? ⟨w3.heap.size + 1, 1, none⟩ = some (.string p3) ∧
        W.cell? ⟨w4.heap.size, 0, none⟩ = some (.string p1) ∧ W.cell? ⟨w4.heap.size, 1, none⟩ = some (.string p2) ∧ W.cell? ⟨w4.heap.size + 1, 0, none⟩ = some (.string p2) ∧ W.cell? ⟨w4.heap.size + 1, 1, none⟩ = some (.string p3))
      (first | exact KS.out _ D0.out | exact KS.out _ D1.out | exact KS.out _ D2.out | exact KS.out _ D3.out | exact KS.out _ D4.out | exact KS.out _ D5.out | assumption)
      (first
        | (go_at_call 9; refine (CG.out _ ?_).mono ?_; exact UP.out _ D0.out; rintro e w6 ⟨rfl, hb⟩; have D1 := Lib.hid (D0.out.trans (hb.mono D0.out.size)); clear hb)
        | (go_at_call 10; refine (CGr.out _).mono ?_; rintro e w7 ⟨rfl, hb⟩; have D2 := Lib.hid (D1.out.trans (hb.mono D1.out.size)); clear hb)
        | (go_at_call 11; refine (CH.out _ ?_).mono ?_; exact UP.out _ D2.out; rintro e w8 ⟨rfl, hb⟩; have D3 := Lib.hid (D2.out.trans (hb.mono D2.out.size)); clear hb)
        | (go_at_call 12; refine (CHr.out _).mono ?_; rintro e w9 ⟨rfl, hb⟩; have D4 := Lib.hid (D3.out.trans (hb.mono D3.out.size)); clear hb)
        | (go_at_call 13; refine (num_any a x _ _ ?_ HX.out).mono ?_; exact HE.out.below (UP.out _ D4.out); rintro e w10 ⟨rfl, hb⟩; have D5 := Lib.hid (D4.out.trans (hb.mono D4.out.size)); clear hb))
    go_wp2_with fail
    go_ret
    exact ⟨rfl, UP.out _ D5.out⟩
end Go.Proofs.YtlblappalhofmaaDoor
