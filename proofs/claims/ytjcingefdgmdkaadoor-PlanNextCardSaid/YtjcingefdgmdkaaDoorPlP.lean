/- The law of next plans, walked. -/
import Derived.Test.YtjcingefdgmdkaaDoorPlY
import Derived.Test.YtjcingefdgmdkaaDoorPlB
import Derived.Test.YtjcingefdgmdkaaDoorPlE
namespace Go.Proofs.YtjcingefdgmdkaaDoor
open Go.RowKit Tide

theorem long_no {cs : List (List Int)} (h : longB cs = false) : cs.length ≤ 10 ∧ ∀ c ∈ cs, c.length ≤ 10 := by
  unfold longB at h
  rw [Bool.or_eq_false_iff] at h
  refine ⟨by have := of_decide_eq_false h.1; omega, fun c hc => ?_⟩
  have := List.any_eq_false.1 h.2 c hc
  simp at this
  exact this

set_option maxRecDepth 100000 in
set_option maxHeartbeats 4000000 in
theorem planNext_law (E : Nat → Addr) (ep : Int) (cs : List (List Int)) (gl : List Int) (fresh : Int) (v gv : Value) (w : World) (hv : Grid w w.heap.size v cs) (hg : Row w w.heap.size gv (int64s gl)) (hE : Errs w E) :
    Calls Tryd.prog 4 #[planV ep v, gv, .int .i64 fresh] w fun e w' => e = .returned (.bool true) ∧ Below w.heap.size w w' := by
  obtain ⟨hgl, A2, c2, rfl, _⟩ := row_ints hg
  obtain ⟨hlen, A, c, rfl, hcl⟩ := hv.form
  clear hcl
  have B0 := Lib.hid ((Below.refl w.heap.size w).alloc (Nat.le_refl _) (.cells #[.int .i64 ep, .slice A cs.length c] 24))
  have P0 := Lib.hid (Two.new w 24 (.int .i64 ep) (.slice A cs.length c))
  have CA := Lib.hid (fun W (h : Below w.heap.size w W) => alive_any E W ((er2_of_errs hE).below h))
  have CL := Lib.hid (fun W (h : Below w.heap.size w W) => long_any ep cs _ _ W (hv.below h) h.size)
  have CC := Lib.hid (fun (hl : longB cs = false) W (h : Below w.heap.size w W) => copy_any ep cs _ _ W (hv.below h) h.size (by have := (long_no hl).1; omega) (fun c hc => by have := (long_no hl).2 c hc; omega))
  obtain ⟨k, ep', cs', hN⟩ : ∃ k ep' cs', nextD ep cs gl fresh = (k, ep', cs') := ⟨_, _, _, rfl⟩
  have CRp := Lib.hid (show ∀ W, Below w.heap.size w W → Calls Tryd.prog 19 #[planV ep (.slice A cs.length c), .slice A2 gl.length c2, .int .i64 fresh] W fun e w' => ∃ v' x, e = .returned (.tuple #[planV ep' v', x]) ∧ IsErr E x k ∧ Grid w' w'.heap.size v' cs' ∧ Below W.heap.size W w' from fun W h =>
    (replace_any E ep cs gl fresh _ _ _ W (hv.below h) h.size (Row.keep hg (below_cells h)) (hE.below h)).mono fun e w' hr => by unfold ReplR at hr; rw [hN] at hr; exact hr)
  have CRr := Lib.hid (show ∀ W, Below w.heap.size w W → Calls Tryd.prog 20 #[planV ep (.slice A cs.length c), .slice A2 gl.length c2, .int .i64 fresh] W fun e w' => ∃ v', e = .returned (.tuple #[planV ep' v', .int .i64 (k : Int)]) ∧ Grid w' w'.heap.size v' cs' ∧ Below W.heap.size W w' from fun W h =>
    (rreplace_any ep cs gl fresh _ _ _ W (hv.below h) h.size (Row.keep hg (below_cells h))).mono fun e w' hr => by unfold RepI at hr; rw [hN] at hr; exact hr)
  have CN := Lib.hid (fun x k (hx : IsErr E x k) W (h : Below w.heap.size w W) => num_any E x k W (hE.below h) hx)
  have HV := Lib.hid (fun W (h : Below w.heap.size w W) => hv.below h)
  have HRt := Lib.hid (show k = 0 → rightB ep' cs' = true from fun h => by
    have := @next_right ep fresh cs gl (by rw [hN]; exact h)
    rw [hN] at this; exact this)
  clear hN
  clear hv hg hE
  go_enter Tryd.func4, Tryd.ntmps4
  go_wp2_with fail
  refine (CA.out _ B0.out).mono ?_
  rintro e w1 ⟨rfl, hb⟩
  have B1 := Lib.hid (B0.out.trans (hb.mono B0.out.size))
  have P1 := Lib.hid (P0.out.below hb P0.out.lt)
  obtain ⟨_, hc0, hc1, _⟩ := P1.out.facts
  clear hb CA
  go_wp2_with fail
  refine (CL.out _ B1.out).mono ?_
  rintro e w2 ⟨rfl, hb⟩
  have B2 := Lib.hid (B1.out.trans (hb.mono B1.out.size))
  have P2 := Lib.hid (P1.out.below hb P1.out.lt)
  clear hb CL hc0 hc1
  obtain ⟨_, hc0, hc1, _⟩ := P2.out.facts
  cases hlb : longB cs with
  | true =>
    clear hlb
    go_wp2_with fail
    go_ret
    exact ⟨rfl, B2.out⟩
  | false =>
  have CC2 := Lib.hid (CC.out hlb)
  clear hlb
  cases q1 : decide ((20 : Int) < (gl.length : Int)) with
  | true =>
    go_wp2_with fail
    go_ret
    exact ⟨rfl, B2.out⟩
  | false =>
  go_wp2_with fail
  refine (CC2.out _ B2.out).mono ?_
  rintro e w3 ⟨vw, vs, rfl, ho, hb⟩
  have G3 := Lib.hid ho.grid
  obtain ⟨_, Aw, cw, rfl, _⟩ := G3.out.form
  have B3 := Lib.hid (B2.out.trans (hb.mono B2.out.size))
  have P3 := Lib.hid (P2.out.below hb P2.out.lt)
  clear hb ho CC CC2 hc0 hc1
  have W4 := Lib.hid (Two.new w3 24 (.int .i64 ep) (.slice Aw cs.length cw))
  have hd := (Below.refl w3.heap.size w3).alloc (Nat.le_refl _) (.cells #[.int .i64 ep, .slice Aw cs.length cw] 24)
  have B4 := Lib.hid (B3.out.trans (hd.mono B3.out.size))
  have P4 := Lib.hid (P3.out.below hd P3.out.lt)
  have G4 := Lib.hid (G3.out.below hd)
  obtain ⟨_, hc0, hc1, _⟩ := P4.out.facts
  clear hd G3 P3 B3
  go_wp2_with fail
  generalize hW4 : w3.alloc (.cells #[.int .i64 ep, .slice Aw cs.length cw] 24) = w4 at *
  clear hW4
  refine (CRp.out _ B4.out).mono ?_
  rintro e w5 ⟨vq, x, rfl, hx, hgq, hb⟩
  obtain ⟨_, Aq, cq, rfl, _⟩ := hgq.form
  have GQ5 := Lib.hid hgq
  have hs45 := hb.size
  have B5 := Lib.hid (B4.out.trans (hb.mono B4.out.size))
  have P5 := Lib.hid (P4.out.below hb P4.out.lt)
  have W5 := Lib.hid (W4.out.below hb W4.out.lt)
  have G5 := Lib.hid (G4.out.below (hb.mono (by have := W4.out.lt; omega)))
  clear hb hgq hc0 hc1 P4 W4 G4 CRp
  have Q6 := Lib.hid (Two.new w5 24 (.int .i64 ep') (.slice Aq cs'.length cq))
  have hd := (Below.refl w5.heap.size w5).alloc (Nat.le_refl _) (.cells #[.int .i64 ep', .slice Aq cs'.length cq] 24)
  have B6 := Lib.hid (B5.out.trans (hd.mono B5.out.size))
  have P6 := Lib.hid (P5.out.below hd P5.out.lt)
  have W6 := Lib.hid (W5.out.below hd W5.out.lt)
  have GQ6 := Lib.hid (GQ5.out.below hd)
  have G6 := Lib.hid (G5.out.below (hd.mono (by have := W5.out.lt; omega)))
  obtain ⟨_, hc0, hc1, _⟩ := P6.out.facts
  clear hd P5 W5 G5 GQ5 B5
  go_wp2_with fail
  generalize hW6 : w5.alloc (.cells #[.int .i64 ep', .slice Aq cs'.length cq] 24) = w6 at *
  clear hW6
  refine (CRr.out _ B6.out).mono ?_
  rintro e w7 ⟨vr, rfl, hgr, hb⟩
  obtain ⟨_, Ar, cr, rfl, _⟩ := hgr.form
  have GR7 := Lib.hid hgr
  have hz6 := Q6.out.lt
  have B7 := Lib.hid (B6.out.trans (hb.mono B6.out.size))
  have P7 := Lib.hid (P6.out.below hb P6.out.lt)
  have W7 := Lib.hid (W6.out.below hb W6.out.lt)
  have Q7 := Lib.hid (Q6.out.below hb Q6.out.lt)
  have GQ7 := Lib.hid (GQ6.out.below (hb.mono (by omega)))
  have G7 := Lib.hid (G6.out.below (hb.mono (by have := W6.out.lt; omega)))
  clear hb hgr hc0 hc1 P6 W6 G6 Q6 GQ6 CRr
  have R8 := Lib.hid (Two.new w7 28 (.int .i64 ep') (.slice Ar cs'.length cr))
  have hd := (Below.refl w7.heap.size w7).alloc (Nat.le_refl _) (.cells #[.int .i64 ep', .slice Ar cs'.length cr] 28)
  have B8 := Lib.hid (B7.out.trans (hd.mono B7.out.size))
  have P8 := Lib.hid (P7.out.below hd P7.out.lt)
  have W8 := Lib.hid (W7.out.below hd W7.out.lt)
  have Q8 := Lib.hid (Q7.out.below hd Q7.out.lt)
  have hz7 := Q7.out.lt
  have hz7w := W7.out.lt
  have GQ8 := Lib.hid (GQ7.out.below (hd.mono (by omega)))
  have GR8 := Lib.hid (GR7.out.below hd)
  have G8 := Lib.hid (G7.out.below (hd.mono (by omega)))
  clear hd P7 W7 G7 Q7 GQ7 GR7 B7
  obtain ⟨_, p0, p1, _⟩ := P8.out.facts
  obtain ⟨_, x0, x1, _⟩ := W8.out.facts
  obtain ⟨_, y0, y1, _⟩ := Q8.out.facts
  obtain ⟨_, z0, z1, _⟩ := R8.out.facts
  go_wp2_with fail
  generalize hW8 : w7.alloc (.cells #[.int .i64 ep', .slice Ar cs'.length cr] 28) = w8 at *
  clear hW8
  refine (CN.out x k hx _ B8.out).mono ?_
  rintro e w9 ⟨rfl, hb⟩
  clear p0 p1 x0 x1 y0 y1 z0 z1
  have B9 := Lib.hid (B8.out.trans (hb.mono B8.out.size))
  have P9 := Lib.hid (P8.out.below hb P8.out.lt)
  have W9 := Lib.hid (W8.out.below hb W8.out.lt)
  have Q9 := Lib.hid (Q8.out.below hb Q8.out.lt)
  have R9 := Lib.hid (R8.out.below hb R8.out.lt)
  have hz8a := R8.out.lt
  have hz8b := Q8.out.lt
  have hz8c := W8.out.lt
  have GQ9 := Lib.hid (GQ8.out.below (hb.mono (by omega)))
  have GR9 := Lib.hid (GR8.out.below (hb.mono (by omega)))
  have G9 := Lib.hid (G8.out.below (hb.mono (by omega)))
  clear hb
  obtain ⟨_, p0, p1, _⟩ := P9.out.facts
  obtain ⟨_, x0, x1, _⟩ := W9.out.facts
  obtain ⟨_, y0, y1, _⟩ := Q9.out.facts
  obtain ⟨_, z0, z1, _⟩ := R9.out.facts
  have C1 := Lib.hid (rsame_eq ep' cs' _ _ _ _ w9 GQ9.out GR9.out (by have := Q9.out.lt; omega) (by have := R9.out.lt; omega))
  have hkk : ((k : Int) == (k : Int)) = true := beq_self_eq_true _
  go_wp2_with fail
  refine C1.out.mono ?_
  rintro e w10 ⟨rfl, hb⟩
  clear p0 p1 x0 x1 y0 y1 z0 z1 C1
  have B10 := Lib.hid (B9.out.trans (hb.mono B9.out.size))
  have P10 := Lib.hid (P9.out.below hb P9.out.lt)
  have W10 := Lib.hid (W9.out.below hb W9.out.lt)
  have Q10 := Lib.hid (Q9.out.below hb Q9.out.lt)
  have R10 := Lib.hid (R9.out.below hb R9.out.lt)
  have hz9a := R9.out.lt
  have hz9b := Q9.out.lt
  have hz9c := W9.out.lt
  have GQ10 := Lib.hid (GQ9.out.below (hb.mono (by omega)))
  have GR10 := Lib.hid (GR9.out.below (hb.mono (by omega)))
  have G10 := Lib.hid (G9.out.below (hb.mono (by omega)))
  clear hb
  obtain ⟨_, p0, p1, _⟩ := P10.out.facts
  obtain ⟨_, x0, x1, _⟩ := W10.out.facts
  obtain ⟨_, y0, y1, _⟩ := Q10.out.facts
  obtain ⟨_, z0, z1, _⟩ := R10.out.facts
  have C2 := Lib.hid (rsame_eq ep cs _ _ _ _ w10 G10.out (HV.out w10 B10.out) (by have := W10.out.lt; omega) B10.out.size)
  go_wp2_with fail
  refine C2.out.mono ?_
  rintro e w11 ⟨rfl, hb⟩
  clear p0 p1 x0 x1 y0 y1 z0 z1 C2
  have B11 := Lib.hid (B10.out.trans (hb.mono B10.out.size))
  have P11 := Lib.hid (P10.out.below hb P10.out.lt)
  have W11 := Lib.hid (W10.out.below hb W10.out.lt)
  have Q11 := Lib.hid (Q10.out.below hb Q10.out.lt)
  have R11 := Lib.hid (R10.out.below hb R10.out.lt)
  have hz10a := R10.out.lt
  have hz10b := Q10.out.lt
  have hz10c := W10.out.lt
  have GQ11 := Lib.hid (GQ10.out.below (hb.mono (by omega)))
  have GR11 := Lib.hid (GR10.out.below (hb.mono (by omega)))
  have G11 := Lib.hid (G10.out.below (hb.mono (by omega)))
  clear hb
  obtain ⟨_, p0, p1, _⟩ := P11.out.facts
  obtain ⟨_, x0, x1, _⟩ := W11.out.facts
  obtain ⟨_, y0, y1, _⟩ := Q11.out.facts
  obtain ⟨_, z0, z1, _⟩ := R11.out.facts
  by_cases h0 : k = 0
  · have hr := HRt.out h0
    subst h0
    have C3 := Lib.hid (right_any ep' cs' _ _ w11 GQ11.out (by have := Q11.out.lt; omega))
    rw [hr] at C3
    clear hr
    go_wp2_with fail
    refine C3.out.mono ?_
    rintro e w12 ⟨rfl, hb⟩
    have B12 := Lib.hid (B11.out.trans (hb.mono B11.out.size))
    clear hb p0 p1 x0 x1 y0 y1 z0 z1
    go_wp2_with fail
    go_ret
    exact ⟨rfl, B12.out⟩
  · have hq : ((k : Int) == 0) = false := beq_eq_false_iff_ne.2 (by omega)
    have hq' : ((k : Int) != 0) = true := by simp only [bne, hq]; rfl
    go_wp2_with fail
    go_ret
    exact ⟨rfl, B11.out⟩
end Go.Proofs.YtjcingefdgmdkaaDoor
