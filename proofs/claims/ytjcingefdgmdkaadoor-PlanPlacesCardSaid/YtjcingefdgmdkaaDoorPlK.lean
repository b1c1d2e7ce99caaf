/- The law of places, walked: which plans are right, where every address stands, back, all units, the tail of all tails. -/
import Derived.Test.YtjcingefdgmdkaaDoorPlB
import Derived.Test.YtjcingefdgmdkaaDoorPlM
import Derived.Test.YtjcingefdgmdkaaDoorPlX
import Derived.Test.YtjcingefdgmdkaaDoorPlE
import Derived.Test.YtjcingefdgmdkaaDoorNumA
import Derived.Deep.RegionHeld3
namespace Go.Proofs.YtjcingefdgmdkaaDoor
open Go.RowKit Tide

theorem addr_back {ep : Int} {cs : List (List Int)} {a : Int} (hR : rightB ep cs = true) (h0 : 0 ≤ a) (h1 : a ≤ 4095) : addrI ep cs (a % cs.length) (a / cs.length) = a := by
  obtain ⟨_, _, n1, n3, _⟩ := right_parts hR
  have hn : cs.length = 1 ∨ cs.length = 2 ∨ cs.length = 3 := by omega
  unfold addrI
  have hc : rightB ep cs = true ∧ 0 ≤ a % (cs.length : Int) ∧ a % (cs.length : Int) < cs.length ∧ 0 ≤ a / (cs.length : Int) ∧ a / (cs.length : Int) ≤ 4096 := by
    refine ⟨hR, ?_, ?_, ?_, ?_⟩ <;> rcases hn with e | e | e <;> rw [e] <;> omega
  rw [if_pos hc]
  rcases hn with e | e | e <;> rw [e] <;> omega
theorem addr_none {ep : Int} {cs : List (List Int)} {ch at' : Int} (h : ¬ (0 ≤ ch ∧ ch < cs.length ∧ 0 ≤ at' ∧ at' ≤ 4096)) : addrI ep cs ch at' = -1 := by
  unfold addrI
  rw [if_neg (fun hh => h hh.2)]
theorem addr_wrong {ep : Int} {cs : List (List Int)} {ch at' : Int} (h : rightB ep cs = false) : addrI ep cs ch at' = -1 := by
  unfold addrI
  rw [if_neg (by rw [h]; simp)]

set_option maxRecDepth 100000 in
set_option maxHeartbeats 4000000 in
theorem planPlaces_law (E : Nat → Addr) (ep : Int) (cs : List (List Int)) (ts : List Int) (v u : Value) (a : Int) (w : World) (hv : Grid w w.heap.size v cs) (hu : Row w w.heap.size u (int64s ts)) (hE : Errs w E) :
    Calls Tryd.prog 3 #[planV ep v, .int .i64 a, u] w fun e w' => e = .returned (.bool true) ∧ Below w.heap.size w w' := by
  obtain ⟨hlu, A2, c2, rfl, hcu⟩ := row_ints hu
  obtain ⟨hlen, A, c, rfl, hcl⟩ := hv.form
  clear hcl hcu
  have B0 := Lib.hid ((Below.refl w.heap.size w).alloc (Nat.le_refl _) (.cells #[.int .i64 ep, .slice A cs.length c] 24))
  have P0 := Lib.hid (Two.new w 24 (.int .i64 ep) (.slice A cs.length c))
  have CA := Lib.hid (fun W (h : Below w.heap.size w W) => alive_any E W ((er2_of_errs hE).below h))
  have CL := Lib.hid (fun W (h : Below w.heap.size w W) => long_any ep cs _ _ W (hv.below h) h.size)
  have CR := Lib.hid (fun W (h : Below w.heap.size w W) => right_any ep cs _ _ W (hv.below h) h.size)
  have CRr := Lib.hid (fun W (h : Below w.heap.size w W) => rright_any ep cs _ _ W (hv.below h) h.size)
  have CT := Lib.hid (fun W (h : Below w.heap.size w W) => tail_any ep cs ts _ _ _ W (hv.below h) (Row.keep hu (below_cells h)) h.size)
  have CP := Lib.hid (fun W (h : Below w.heap.size w W) => place_any E ep cs _ a _ W (hv.below h) h.size ((er2_of_errs hE).below h))
  have CAd := Lib.hid (fun ch at' W (h : Below w.heap.size w W) => addr_any ep cs _ ch at' _ W (hv.below h) h.size)
  have CN := Lib.hid (fun x k (hx : IsErr E x k) W (h : Below w.heap.size w W) => num_any E x k W (hE.below h) hx)
  have CU := Lib.hid (fun (h : rightB ep cs = true) W (hb : Below w.heap.size w W) => units_any ep cs _ _ W (hv.below hb) hb.size h)
  have CUr := Lib.hid (fun (h : rightB ep cs = true) W (hb : Below w.heap.size w W) => runits_any ep cs _ _ W (hv.below hb) hb.size h)
  have CUw := Lib.hid (fun (h : rightB ep cs = false) W (hb : Below w.heap.size w W) => units_wrong ep cs _ _ W (hv.below hb) hb.size h)
  have CTr := Lib.hid (fun (h : rightB ep cs = true) (hl : ts.length ≤ 1000000) W (hb : Below w.heap.size w W) => rtail_any ep cs ts _ _ _ W (hv.below hb) (Row.keep hu (below_cells hb)) hb.size h hl)
  clear hv hu hE
  go_enter Tryd.func3, Tryd.ntmps3
  go_wp2_with fail
  refine (CA.out _ B0.out).mono ?_
  rintro e w1 ⟨rfl, hb⟩
  have B1 := Lib.hid (B0.out.trans (hb.mono B0.out.size))
  have P1 := Lib.hid (P0.out.below hb P0.out.lt)
  obtain ⟨_, hc0, hc1, _⟩ := P1.out.facts
  clear hb CA
  go_wp2_with fail
  refine (CL.out _ B1.out).mono ?_
  rintro e w2 ⟨rfl, hb⟩
  have B2 := Lib.hid (B1.out.trans (hb.mono B1.out.size))
  have P2 := Lib.hid (P1.out.below hb P1.out.lt)
  clear hb CL hc0 hc1
  obtain ⟨_, hc0, hc1, _⟩ := P2.out.facts
  generalize longB cs = lb at *
  cases lb with
  | true =>
    go_wp2_with fail
    go_ret
    exact ⟨rfl, B2.out⟩
  | false =>
  cases q1 : decide ((10 : Int) < (ts.length : Int)) with
  | true =>
    go_wp2_with fail
    go_ret
    exact ⟨rfl, B2.out⟩
  | false =>
  have HTS := Lib.hid (show ts.length ≤ 1000000 by simp at q1; omega)
  have B3 := Lib.hid (B2.out.alloc B2.out.size (.cells #[.int .i64 ep, .slice A cs.length c] 28))
  have P3 := Lib.hid (P2.out.alloc (.cells #[.int .i64 ep, .slice A cs.length c] 28))
  have Q3 := Lib.hid (Two.new w2 28 (.int .i64 ep) (.slice A cs.length c))
  go_wp2_with fail
  refine (CRr.out _ B3.out).mono ?_
  rintro e w4 ⟨rfl, hb⟩
  have B4 := Lib.hid (B3.out.trans (hb.mono B3.out.size))
  have P4 := Lib.hid (P3.out.below hb P3.out.lt)
  have Q4 := Lib.hid (Q3.out.below hb Q3.out.lt)
  clear hb CRr hc0 hc1
  obtain ⟨_, hc0, hc1, _⟩ := P4.out.facts
  go_wp2_with fail
  refine (CP.out _ B4.out).mono ?_
  rintro e w5 ⟨x, rfl, hx, hb⟩
  have B5 := Lib.hid (B4.out.trans (hb.mono B4.out.size))
  have P5 := Lib.hid (P4.out.below hb P4.out.lt)
  have Q5 := Lib.hid (Q4.out.below hb Q4.out.lt)
  clear hb CP hc0 hc1
  obtain ⟨_, hc0, hc1, _⟩ := P5.out.facts
  rcases hx with ⟨hr, rfl⟩ | ⟨hr, ha, rfl⟩ | ⟨hr, h0, h1, rfl⟩
  · have HR := Lib.hid hr
    rw [hr] at CR
    rw [hr]
    have CA0 := Lib.hid (CAd.out 0 0)
    rw [addr_wrong hr] at CA0
    rw [tail_wrong hr] at CT
    clear hr
    go_wp2_with fail
    refine (CR.out _ B5.out).mono ?_
    rintro e w6 ⟨rfl, hb⟩
    have B6 := Lib.hid (B5.out.trans (hb.mono B5.out.size))
    have P6 := Lib.hid (P5.out.below hb P5.out.lt)
    clear hb hc0 hc1
    obtain ⟨_, hc0, hc1, _⟩ := P6.out.facts
    go_wp2_with fail
    refine (CN.out _ 4 (isErr_at E 3 (by omega)) _ B6.out).mono ?_
    rintro e w7 ⟨rfl, hb⟩
    have B7 := Lib.hid (B6.out.trans (hb.mono B6.out.size))
    have P7 := Lib.hid (P6.out.below hb P6.out.lt)
    clear hb hc0 hc1
    obtain ⟨_, hc0, hc1, _⟩ := P7.out.facts
    go_wp2_with fail
    refine (CA0.out _ B7.out).mono ?_
    rintro e w8 ⟨rfl, hb⟩
    have B8 := Lib.hid (B7.out.trans (hb.mono B7.out.size))
    have P8 := Lib.hid (P7.out.below hb P7.out.lt)
    clear hb hc0 hc1
    obtain ⟨_, hc0, hc1, _⟩ := P8.out.facts
    go_wp2_with fail
    refine (CT.out _ B8.out).mono ?_
    rintro e w9 ⟨rfl, hb⟩
    have B9 := Lib.hid (B8.out.trans (hb.mono B8.out.size))
    have P9 := Lib.hid (P8.out.below hb P8.out.lt)
    clear hb hc0 hc1
    obtain ⟨_, hc0, hc1, _⟩ := P9.out.facts
    go_wp2_with fail
    refine (CUw.out HR.out _ B9.out).mono ?_
    rintro e w10 ⟨rfl, hb⟩
    have B10 := Lib.hid (B9.out.trans (hb.mono B9.out.size))
    clear hb hc0 hc1
    go_wp2_with fail
    go_ret
    exact ⟨rfl, B10.out⟩
  · have HR := Lib.hid hr
    rw [hr] at CR
    rw [hr]
    go_wp2_with fail
    refine (CR.out _ B5.out).mono ?_
    rintro e w6 ⟨rfl, hb⟩
    have B6 := Lib.hid (B5.out.trans (hb.mono B5.out.size))
    have P6 := Lib.hid (P5.out.below hb P5.out.lt)
    have Q6 := Lib.hid (Q5.out.below hb Q5.out.lt)
    have CT1 := Lib.hid (CTr.out hr HTS.out)
    have CU1 := Lib.hid (CU.out hr)
    have CU2 := Lib.hid (CUr.out hr)
    clear hb hc0 hc1 hr
    go_wp2_with fail
    generalize tailI ep cs ts ts.length = T at *
    generalize unitsL cs = L at *
    have D0 := Lib.hid ((Below.refl w6.heap.size w6).drew)
    have UP := Lib.hid (fun W (h : Below w6.heap.size w6 W) => B6.out.trans (h.mono B6.out.size))
    have KS := Lib.hid (show ∀ W : World, Below w6.heap.size w6 W → (W.cell? ⟨w.heap.size, 0, none⟩ = some (.int .i64 ep) ∧ W.cell? ⟨w.heap.size, 1, none⟩ = some (.slice A cs.length c) ∧ W.cell? ⟨w2.heap.size, 0, none⟩ = some (.int .i64 ep) ∧ W.cell? ⟨w2.heap.size, 1, none⟩ = some (.slice A cs.length c)) from fun W hb =>
      have f0 := (P6.out.below hb P6.out.lt).facts
      have f1 := (Q6.out.below hb Q6.out.lt).facts
      ⟨f0.2.1, f0.2.2.1, f1.2.1, f1.2.2.1⟩)
    go_region_held3 (fun W => W.cell? ⟨w.heap.size, 0, none⟩ = some (.int .i64 ep) ∧ W.cell? ⟨w.heap.size, 1, none⟩ = some (.slice A cs.length c) ∧ W.cell? ⟨w2.heap.size, 0, none⟩ = some (.int .i64 ep) ∧ W.cell? ⟨w2.heap.size, 1, none⟩ = some (.slice A cs.length c))
      (first | exact KS.out _ D0.out | exact KS.out _ D1.out | exact KS.out _ D2.out | exact KS.out _ D3.out | exact KS.out _ D4.out | exact KS.out _ D5.out | assumption)
      (first
        | (go_at_call 14; (with_reducible refine (CU1.out _ ?_).mono ?_); exact UP.out _ D0.out; rintro e w7 ⟨v7, rfl, ho, hb⟩; have D1 := Lib.hid (D0.out.trans (hb.mono D0.out.size)); have O1 := Lib.hid ho; clear hb ho)
        | (go_at_call 16; (with_reducible refine (CU2.out _ ?_).mono ?_); exact UP.out _ D1.out; rintro e w8 ⟨v8, rfl, ho, hb⟩; have D2 := Lib.hid (D1.out.trans (hb.mono D1.out.size)); have O2 := Lib.hid ho; have O12 := Lib.hid (O1.out.below hb); clear hb ho)
        | (go_at_call 15; (with_reducible refine (sameI_any v7 v8 L L w8.heap.size w8.heap.size _ ?_ ?_).mono ?_); exact O12.out.row; exact O2.out.row; rintro e w9 ⟨rfl, hb⟩; have D3 := Lib.hid (D2.out.trans (hb.mono D2.out.size)); clear hb)
        | (go_at_call 13; (with_reducible refine (CT.out _ ?_).mono ?_); exact UP.out _ D3.out; rintro e w10 ⟨rfl, hb⟩; have D4 := Lib.hid (D3.out.trans (hb.mono D3.out.size)); clear hb)
        | (go_at_call 17; (with_reducible refine (CT1.out _ ?_).mono ?_); exact UP.out _ D4.out; rintro e w11 ⟨rfl, hb⟩; have D5 := Lib.hid (D4.out.trans (hb.mono D4.out.size)); clear hb))
    cases q0 : decide (a < 0) with
    | true =>
      clear ha
      go_wp2_with fail
      refine (CN.out _ 1 (isErr_at E 0 (by omega)) _ (UP.out _ D5.out)).mono ?_
      rintro e w12 ⟨rfl, hb⟩
      have B12 := Lib.hid ((UP.out _ D5.out).trans (hb.mono (UP.out _ D5.out).size))
      clear hb
      go_wp2_with fail
      go_ret
      exact ⟨rfl, B12.out⟩
    | false =>
      have q2 : decide (4095 < a) = true := by simp at q0; simp; omega
      clear ha
      go_wp2_with fail
      refine (CN.out _ 1 (isErr_at E 0 (by omega)) _ (UP.out _ D5.out)).mono ?_
      rintro e w12 ⟨rfl, hb⟩
      have B12 := Lib.hid ((UP.out _ D5.out).trans (hb.mono (UP.out _ D5.out).size))
      clear hb
      go_wp2_with fail
      go_ret
      exact ⟨rfl, B12.out⟩
  · have HR := Lib.hid hr
    rw [hr] at CR
    rw [hr]
    go_wp2_with fail
    refine (CR.out _ B5.out).mono ?_
    rintro e w6 ⟨rfl, hb⟩
    have B6 := Lib.hid (B5.out.trans (hb.mono B5.out.size))
    have P6 := Lib.hid (P5.out.below hb P5.out.lt)
    have Q6 := Lib.hid (Q5.out.below hb Q5.out.lt)
    have CT1 := Lib.hid (CTr.out hr HTS.out)
    have CU1 := Lib.hid (CU.out hr)
    have CU2 := Lib.hid (CUr.out hr)
    clear hb hc0 hc1 hr
    go_wp2_with fail
    generalize tailI ep cs ts ts.length = T at *
    generalize unitsL cs = L at *
    have D0 := Lib.hid ((Below.refl w6.heap.size w6).drew)
    have UP := Lib.hid (fun W (h : Below w6.heap.size w6 W) => B6.out.trans (h.mono B6.out.size))
    have KS := Lib.hid (show ∀ W : World, Below w6.heap.size w6 W → (W.cell? ⟨w.heap.size, 0, none⟩ = some (.int .i64 ep) ∧ W.cell? ⟨w.heap.size, 1, none⟩ = some (.slice A cs.length c) ∧ W.cell? ⟨w2.heap.size, 0, none⟩ = some (.int .i64 ep) ∧ W.cell? ⟨w2.heap.size, 1, none⟩ = some (.slice A cs.length c)) from fun W hb =>
      have f0 := (P6.out.below hb P6.out.lt).facts
      have f1 := (Q6.out.below hb Q6.out.lt).facts
      ⟨f0.2.1, f0.2.2.1, f1.2.1, f1.2.2.1⟩)
    go_region_held3 (fun W => W.cell? ⟨w.heap.size, 0, none⟩ = some (.int .i64 ep) ∧ W.cell? ⟨w.heap.size, 1, none⟩ = some (.slice A cs.length c) ∧ W.cell? ⟨w2.heap.size, 0, none⟩ = some (.int .i64 ep) ∧ W.cell? ⟨w2.heap.size, 1, none⟩ = some (.slice A cs.length c))
      (first | exact KS.out _ D0.out | exact KS.out _ D1.out | exact KS.out _ D2.out | exact KS.out _ D3.out | exact KS.out _ D4.out | exact KS.out _ D5.out | assumption)
      (first
        | (go_at_call 14; (with_reducible refine (CU1.out _ ?_).mono ?_); exact UP.out _ D0.out; rintro e w7 ⟨v7, rfl, ho, hb⟩; have D1 := Lib.hid (D0.out.trans (hb.mono D0.out.size)); have O1 := Lib.hid ho; clear hb ho)
        | (go_at_call 16; (with_reducible refine (CU2.out _ ?_).mono ?_); exact UP.out _ D1.out; rintro e w8 ⟨v8, rfl, ho, hb⟩; have D2 := Lib.hid (D1.out.trans (hb.mono D1.out.size)); have O2 := Lib.hid ho; have O12 := Lib.hid (O1.out.below hb); clear hb ho)
        | (go_at_call 15; (with_reducible refine (sameI_any v7 v8 L L w8.heap.size w8.heap.size _ ?_ ?_).mono ?_); exact O12.out.row; exact O2.out.row; rintro e w9 ⟨rfl, hb⟩; have D3 := Lib.hid (D2.out.trans (hb.mono D2.out.size)); clear hb)
        | (go_at_call 13; (with_reducible refine (CT.out _ ?_).mono ?_); exact UP.out _ D3.out; rintro e w10 ⟨rfl, hb⟩; have D4 := Lib.hid (D3.out.trans (hb.mono D3.out.size)); clear hb)
        | (go_at_call 17; (with_reducible refine (CT1.out _ ?_).mono ?_); exact UP.out _ D4.out; rintro e w11 ⟨rfl, hb⟩; have D5 := Lib.hid (D4.out.trans (hb.mono D4.out.size)); clear hb))
    have q0 : decide (a < 0) = false := by simp; omega
    have q2 : decide (4095 < a) = false := by simp; omega
    have hn := right_parts HR.out
    have n1 := hn.2.2.1
    have n3 := hn.2.2.2.1
    have CA1 := Lib.hid (CAd.out (a % cs.length) (a / cs.length))
    have CA2 := Lib.hid (CAd.out cs.length 0)
    have CA3 := Lib.hid (CAd.out (-1) 0)
    have CA4 := Lib.hid (CAd.out 0 (-1))
    have CA5 := Lib.hid (CAd.out 0 4097)
    rw [addr_back HR.out h0 h1] at CA1
    rw [@addr_none ep cs (cs.length : Int) 0 (by omega)] at CA2
    rw [@addr_none ep cs (-1) 0 (by omega)] at CA3
    rw [@addr_none ep cs 0 (-1) (by omega)] at CA4
    rw [@addr_none ep cs 0 4097 (by omega)] at CA5
    have F11 := KS.out _ D5.out
    obtain ⟨g0, g1, _, _⟩ := F11
    have PP := Lib.hid (P6.out.below D5.out P6.out.lt)
    have U5 := Lib.hid (UP.out _ D5.out)
    have nz : (0 : Int) ≤ (cs.length : Int) := by omega
    have nq : ((cs.length : Int) == 0) = false := beq_eq_false_iff_ne.2 (by omega)
    clear hn D0 D1 D2 D3 D4 D5 UP CT1 CU1 CU2 CU CUr CUw CTr CN CR HTS O1 O12 O2
    go_wp2_with fail
    refine (CA1.out _ U5.out).mono ?_
    rintro e w12 ⟨rfl, hb⟩
    have U6 := Lib.hid (U5.out.trans (hb.mono U5.out.size))
    clear g0 g1
    have PP := Lib.hid (PP.out.below hb PP.out.lt)
    obtain ⟨_, g0, g1, _⟩ := PP.out.facts
    clear hb
    go_wp2_with fail
    refine (CA2.out _ U6.out).mono ?_
    rintro e w13 ⟨rfl, hb⟩
    have U7 := Lib.hid (U6.out.trans (hb.mono U6.out.size))
    clear g0 g1
    have PP := Lib.hid (PP.out.below hb PP.out.lt)
    obtain ⟨_, g0, g1, _⟩ := PP.out.facts
    clear hb
    go_wp2_with fail
    refine (CA3.out _ U7.out).mono ?_
    rintro e w14 ⟨rfl, hb⟩
    have U8 := Lib.hid (U7.out.trans (hb.mono U7.out.size))
    clear g0 g1
    have PP := Lib.hid (PP.out.below hb PP.out.lt)
    obtain ⟨_, g0, g1, _⟩ := PP.out.facts
    clear hb
    go_wp2_with fail
    refine (CA4.out _ U8.out).mono ?_
    rintro e w15 ⟨rfl, hb⟩
    have U9 := Lib.hid (U8.out.trans (hb.mono U8.out.size))
    clear g0 g1
    have PP := Lib.hid (PP.out.below hb PP.out.lt)
    obtain ⟨_, g0, g1, _⟩ := PP.out.facts
    clear hb
    go_wp2_with fail
    refine (CA5.out _ U9.out).mono ?_
    rintro e w16 ⟨rfl, hb⟩
    have U10 := Lib.hid (U9.out.trans (hb.mono U9.out.size))
    clear hb g0 g1
    go_wp2_with fail
    go_ret
    exact ⟨rfl, U10.out⟩
end Go.Proofs.YtjcingefdgmdkaaDoor
