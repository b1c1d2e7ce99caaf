/- Package chain: Read. -/
import Derived.Test.YtiafamacjpgjoaaGreatDoorGUlR
import Derived.Test.YtiafamacjpgjoaaGreatDoorGPush
import Derived.Test.YtiafamacjpgjoaaGreatDoorGUiG
namespace Go.Proofs.YtiafamacjpgjoaaGreatDoor
open Go Go.RowKit Tide

theorem readU_none {u : UnitD} {ep a : Int} (h : (readU u ep a).2 ≠ 0) : (readU u ep a).1 = [] := by
  unfold readU at h ⊢
  split
  · rfl
  split
  · rfl
  rename_i h1 h2
  rw [if_neg h1, if_neg h2] at h
  cases hf : u.rows.find? fun p => (p.adr : Int) == a with
  | none => rfl
  | some p => rw [hf] at h; exact absurd rfl h
theorem read_spot {up : Nat → Bool} {ep at' : Int} {us : Nat → UnitD} {l : List Int} {m : Nat} (hm : l.length = m + 1) {n0 nl : Int} (h0 : l.headD 0 = n0) (hl : l.getLastD 0 = nl) (h1 : m = 0 → n0 = nl) :
    readC up ep at' us l = if (sreadC up ep at' us nl).2 ≠ 10 then (us, sreadC up ep at' us nl) else if (sreadC up ep at' us n0).2 ≠ 0 then (us, [], (sreadC up ep at' us n0).2)
      else if (fromC up ep at' (sreadC up ep at' us n0).1 us 1 (l.drop 1)).2 ≠ 0 then ((fromC up ep at' (sreadC up ep at' us n0).1 us 1 (l.drop 1)).1, [], (fromC up ep at' (sreadC up ep at' us n0).1 us 1 (l.drop 1)).2)
      else ((fromC up ep at' (sreadC up ep at' us n0).1 us 1 (l.drop 1)).1, (sreadC up ep at' us n0).1, 0) := by
  unfold readC
  rw [h0, hl, hm]
  cases hu : upC up nl with
  | false =>
    have : sreadC up ep at' us nl = ([], 12) := by unfold sreadC; rw [if_pos hu]
    rw [if_pos rfl, this, if_pos (by decide)]
  | true =>
    have hS : sreadC up ep at' us nl = readU (us nl.toNat) ep at' := by unfold sreadC; rw [if_neg (by rw [hu]; decide)]
    rw [if_neg (by decide), hS]
    by_cases h10 : (readU (us nl.toNat) ep at').2 ≠ 10
    · rw [if_pos (.inl h10), if_pos h10]
    · rw [if_neg h10]
      by_cases hz : m = 0
      · have e := h1 hz
        subst e
        rw [if_pos (.inr (by omega)), hS, if_pos (by omega)]
        have h9 : (readU (us n0.toNat) ep at').2 ≠ 0 := by omega
        have := readU_none h9
        rw [← this]
      · rw [if_neg (by rintro (h | h); exact h10 h; omega)]
        cases hu0 : upC up n0 with
        | false =>
          have : sreadC up ep at' us n0 = ([], 12) := by unfold sreadC; rw [if_pos hu0]
          rw [if_pos rfl, this, if_pos (by decide)]
        | true =>
          have hS0 : sreadC up ep at' us n0 = readU (us n0.toNat) ep at' := by unfold sreadC; rw [if_neg (by rw [hu0]; decide)]
          rw [if_neg (by decide), hS0]
section
variable {D : DvP} {a x : Nat → Addr} {w W W' : World} {lo : Nat → Prop} {m N M : Nat} {g : Nat → Nat} {H : Nat → Nat → Prop} {us us' : Nat → UnitD} {up : Nat → Bool} {v vp : Value} {cs : List (List Int)}
def ReadW (a : Nat → Addr) (D : DvP) (w W : World) (g : Nat → Nat) (H : Nat → Nat → Prop) (m N : Nat) (r : (Nat → UnitD) × List UInt8 × Nat) (e : Ending) (w' : World) : Prop :=
  ∃ vb x, e = .returned (.tuple #[vb, x]) ∧ Bytes w' w'.heap.size vb r.2.1 ∧ (∀ j, vb.ownBlock = some j → W.heap.size ≤ j ∧ j < w'.heap.size) ∧ IsErr a x r.2.2 ∧ UnimStep D w W g H m 128 N r.1 w'
set_option maxRecDepth 100000 in
set_option maxHeartbeats 2000000 in
theorem cread_any (hD : DvSpec (three a) D) (hE : Errs w a) (h : UCall D w W lo g H m us up v vp cs N) (hN : N + 3 ≤ 90000) (ep q : Int) :
    Calls Tryz.prog 12 #[v, planV ep vp, .int .i64 q] W (ReadW a D w W g H m (N + 3) (readC14 up ep cs q us)) := by
  obtain ⟨A, c, rfl, hcl⟩ := h.grid.form
  obtain ⟨b0, o0, c0, rfl, _, hrow6⟩ := rowM_form h.ups.1 (h.rows W (Kept.refl _ _))
  clear hrow6 hcl
  obtain ⟨W0, hW0⟩ : ∃ W0, W.alloc (.cells #[.int .i64 ep, .slice A cs.length c] 24) = W0 := ⟨_, rfl⟩
  have B0 := Lib.hid (show Below W.heap.size W W0 from by rw [← hW0]; exact (Below.refl W.heap.size W).alloc (Nat.le_refl _) _)
  have P0 := Lib.hid (show Two W0 W.heap.size 24 (.int .i64 ep) (.slice A cs.length c) from by rw [← hW0]; exact Two.new W _ _ _)
  have HD := Lib.hid hD
  have HE := Lib.hid hE
  have HC := Lib.hid (h.below hD B0.out)
  have HHl := Lib.hid h.unis.lt
  have CP := Lib.hid (cplace_any hD hE HC.out ep q)
  obtain ⟨_, p0, p1, _⟩ := P0.out.facts
  have HS0 := Lib.hid (fun (W1 : World) (hb : Below W0.heap.size W0 W1) => show UnimStep D w W g H m 128 (N + 3) us W1 from UnimStep.after B0.out ((UnimStep.refl HD.out HC.out.unis hb).mono (show N ≤ N + 3 by omega)))
  have HE2 := Lib.hid (fun (W1 : World) (hb : Below W0.heap.size W0 W1) => (HC.out.below HD.out hb).errs HE.out)
  clear h hD hE
  by_cases he : placeE ep cs q = 0
  · have hlen := place_ok he
    obtain ⟨l, hl⟩ : ∃ l, chainAt cs q = l := ⟨_, rfl⟩
    obtain ⟨at', hat⟩ : ∃ z, q / (cs.length : Int) = z := ⟨_, rfl⟩
    have hx0 : readC14 up ep cs q us = readC up ep at' us l := by
      unfold readC14
      rw [if_neg (by rw [he]; decide), hl, hat]
    rw [hl] at hlen
    have HE0 := Lib.hid he
    have HRow := Lib.hid (fun (W1 : World) (vc : Value) (hc : RowS W1 lo vc (int64s (chainAt cs q))) => show RowS W1 lo vc (int64s l) from hl ▸ hc)
    have HAt := Lib.hid hat
    obtain ⟨k, hk⟩ : ∃ k, l.length = k + 1 := ⟨l.length - 1, by omega⟩
    have hkl : k < l.length := by omega
    have h0l : 0 < l.length := by omega
    have hhead : l.headD 0 = l[0] := by
      rw [List.headD_eq_head?_getD, List.head?_eq_getElem?, List.getElem?_eq_getElem (by omega)]
      rfl
    have hlast := last_at l k hk
    rw [read_spot hk hhead hlast (by intro e; subst e; rfl)] at hx0
    have CS := Lib.hid (fun (W1 : World) (vc : Value) (hb : Below W0.heap.size W0 W1) (hc : RowS W1 lo vc (int64s l)) => sread_any HD.out HE.out (HC.out.below HD.out hb) ep at' l vc hc k hkl)
    have CS0 := Lib.hid (fun (W1 : World) (vc : Value) (hb : Below W0.heap.size W0 W1) (hc : RowS W1 lo vc (int64s l)) => sread_any HD.out HE.out (HC.out.below HD.out hb) ep at' l vc hc 0 h0l)
    have CF := Lib.hid (fun (W1 : World) (vc vb : Value) (b : List UInt8) (hb : Below W0.heap.size W0 W1) (hc : RowS W1 lo vc (int64s l)) (hvb : Bytes W1 W1.heap.size vb b) (hap : ∀ j, vb.ownBlock = some j → W.heap.size ≤ j ∧ j < W1.heap.size) =>
      finish_any HD.out HE.out (HC.out.below HD.out hb) ep at' l (by omega) vc hc (by omega) vb b hvb (fun j hj => ⟨fun e => by have h1 := (HHl.out j e).2; have h2 := (hap j hj).1; omega, (hap j hj).2⟩))
    obtain ⟨S1, hS1⟩ : ∃ S1, sreadC up ep at' us l[k] = S1 := ⟨_, rfl⟩
    obtain ⟨S0, hS0⟩ : ∃ S0, sreadC up ep at' us l[0] = S0 := ⟨_, rfl⟩
    rw [hS1] at CS hx0
    rw [hS0] at CS0 hx0
    obtain ⟨R, hR⟩ : ∃ R, readC14 up ep cs q us = R := ⟨_, rfl⟩
    rw [hR] at hx0 ⊢
    have HX := Lib.hid hx0
    have HK := Lib.hid hk
    have HL := Lib.hid hlen
    have i3 : (k : Int) ≤ 2 := by omega
    have i0 : (0 : Int) ≤ (k : Int) := by omega
    clear he hlen hl hat hx0 hhead hlast hS1 hS0 hR hk hkl h0l
    go_enter Tryz.func12, Tryz.ntmps12
    go_wp2_with fail
    refine CP.out.mono ?_
    rintro e w1 ⟨y, rfl, hy, hb⟩
    rcases hy with ⟨hne, _⟩ | ⟨_, vc, rfl, hrow⟩
    · exact absurd HE0.out hne
    have hrow := HRow.out _ _ hrow
    rw [HAt.out]
    obtain ⟨_, A1, c1, rfl, _⟩ := row_ints hrow.1
    obtain ⟨W1, hW1⟩ : ∃ W1, w1.alloc (.cells #[.slice (some ⟨b0, o0, none⟩) m c0, .int .i64 ep, .slice A1 l.length c1, .int .i64 at'] 79) = W1 := ⟨_, rfl⟩
    have B1 := Lib.hid (show Below W0.heap.size W0 W1 from by rw [← hW1]; exact hb.alloc hb.size _)
    have T1 := Lib.hid (show SpotW W1 w1.heap.size (.slice (some ⟨b0, o0, none⟩) m c0) ep (.slice A1 l.length c1) at' from by rw [← hW1]; exact SpotW.new w1 _ _ _ _)
    have HRo := Lib.hid (show RowS W1 lo (.slice A1 l.length c1) (int64s l) from by rw [← hW1]; exact RowS.below hrow ((Below.refl w1.heap.size w1).alloc (Nat.le_refl _) _))
    have C1 := Lib.hid (CS.out W1 _ B1.out HRo.out)
    obtain ⟨s0, s1, s2, s3⟩ := T1.out.facts
    rw [HK.out] at HRo T1 hW1 C1 s2 ⊢
    have ik : ((k + 1 : Nat) : Int) - 1 = (k : Int) := by push_cast; omega
    have ik2 : ((k : Int) + 1) - 1 = (k : Int) := by omega
    clear hb hrow CP HRow CS
    go_wp2_with fail
    refine C1.out.mono ?_
    rintro e w2 ⟨v2, x2, rfl, hv2, ho2, hx2, hb2⟩
    obtain ⟨A2, c2, rfl, _⟩ := hv2.form
    have B2 := Lib.hid (B1.out.trans (hb2.mono B1.out.size))
    have HX2 := Lib.hid hx2
    have HO2 := Lib.hid (show ∀ j, (Value.slice A2 S1.1.length c2).ownBlock = some j → W.heap.size ≤ j ∧ j < w2.heap.size from fun j hj => ⟨Nat.le_trans (B0.out.trans (B1.out.mono B0.out.size)).size (ho2 j hj).1, (ho2 j hj).2⟩)
    have HV2 := Lib.hid hv2
    have CI := Lib.hid (is_num a x2 S1.2 9 w2 (HE2.out w2 B2.out) hx2 (by decide))
    have e10 : w2.cell? ⟨0, 0, none⟩ = some (errAt (a 9)) := (HE2.out w2 B2.out).var 9 (by decide)
    have T2 := Lib.hid (T1.out.below hb2)
    have HRo2 := Lib.hid (RowS.below HRo.out hb2)
    have C2 := Lib.hid (CS0.out w2 _ B2.out HRo2.out)
    clear hv2 ho2 hx2 hb2 C1 CS0 s0 s1 s2 s3 hW1
    obtain ⟨s0, s1, s2, s3⟩ := T2.out.facts
    cases q10 : (S1.2 == 9 + 1) with
    | false =>
      have hne : S1.2 ≠ 10 := by simpa using q10
      have hR := HX.out
      rw [if_pos hne] at hR
      have HR := Lib.hid hR
      rw [q10] at CI
      clear hR hne q10 C2
      go_wp2_with fail
      refine CI.out.mono ?_
      rintro e w3 ⟨rfl, rfl⟩
      clear CI
      go_wp2_with fail
      go_ret2
      exact ⟨_, _, rfl, by rw [HR.out]; exact HV2.out, HO2.out, by rw [HR.out]; exact HX2.out, by rw [HR.out]; exact HS0.out _ B2.out⟩
    | true =>
      have hne : S1.2 = 10 := by simpa using q10
      have hR := HX.out
      rw [if_neg (by rw [hne]; decide)] at hR
      have HX := Lib.hid hR
      rw [q10] at CI
      clear hR hne q10
      go_wp2_with fail
      refine CI.out.mono ?_
      rintro e w3 ⟨rfl, rfl⟩
      clear CI e10
      go_wp2_with fail
      refine C2.out.mono ?_
      rintro e w3 ⟨v3, x3, rfl, hv3, ho3, hx3, hb3⟩
      obtain ⟨A3, c3, rfl, _⟩ := hv3.form
      have B3 := Lib.hid (B2.out.trans (hb3.mono B2.out.size))
      have T3 := Lib.hid (T2.out.below hb3)
      have HX3 := Lib.hid hx3
      have HV3 := Lib.hid hv3
      have HO3 := Lib.hid (show ∀ j, (Value.slice A3 S0.1.length c3).ownBlock = some j → W.heap.size ≤ j ∧ j < w3.heap.size from fun j hj => ⟨Nat.le_trans (B0.out.trans (B2.out.mono B0.out.size)).size (ho3 j hj).1, (ho3 j hj).2⟩)
      have HRo3 := Lib.hid (RowS.below HRo2.out hb3)
      clear hv3 ho3 hx3 hb3 C2 s0 s1 s2 s3
      obtain ⟨s0, s1, s2, s3⟩ := T3.out.facts
      by_cases h0 : S0.2 = 0
      · have hR := HX.out
        rw [if_neg (by rw [h0]; decide)] at hR
        have hx3 := HX3.out
        rw [h0] at hx3
        obtain rfl := isErr_zero hx3 rfl
        have C3 := CF.out w3 _ _ S0.1 B3.out HRo3.out HV3.out HO3.out
        obtain ⟨F, hF⟩ : ∃ F, fromC up ep at' S0.1 us 1 (l.drop 1) = F := ⟨_, rfl⟩
        rw [hF] at hR C3
        have C3 := Lib.hid C3
        have HX := Lib.hid hR
        clear hR hx3 h0 hF CF HX3
        go_wp2_with fail
        refine C3.out.mono ?_
        rintro e w4 ⟨x4, rfl, hx4, hs4⟩
        have HX4 := Lib.hid hx4
        have HO4 := Lib.hid (show w3.heap.size ≤ w4.heap.size from by obtain ⟨_, _, _, g3⟩ := hs4; exact g3.size)
        have HB4 := Lib.hid (show Bytes w4 w4.heap.size (Value.slice A3 S0.1.length c3) S0.1 from by
          obtain ⟨_, _, _, g3⟩ := hs4
          exact Row.more (row_kept HV3.out g3 (Nat.le_refl _) (fun j hj e => by have h1 := (HHl.out j e).2; have h2 := (HO3.out j hj).1; omega)) g3.size)
        have HS4 := Lib.hid (UnimStep.after (B0.out.trans (B3.out.mono B0.out.size)) (hs4.mono (show N + l.length ≤ N + 3 by have := HL.out; omega)))
        clear hx4 hs4 C3 s0 s1 s2 s3
        go_wp2_with fail
        go_ret2
        by_cases hf : F.2 = 0
        · have hR := HX.out
          rw [if_neg (by rw [hf]; decide)] at hR
          refine ⟨_, _, rfl, ?_, ?_, ?_, ?_⟩
          · rw [hR]; unfold finV; rw [if_pos hf]; exact HB4.out
          · unfold finV; rw [if_pos hf]; exact fun j hj => ⟨(HO3.out j hj).1, Nat.lt_of_lt_of_le (HO3.out j hj).2 HO4.out⟩
          · rw [hR]; have := HX4.out; rw [hf] at this; exact this
          · rw [hR]; exact HS4.out
        · have hR := HX.out
          rw [if_pos hf] at hR
          refine ⟨_, _, rfl, ?_, ?_, ?_, ?_⟩
          · rw [hR]; unfold finV; rw [if_neg hf]; exact bytes_nil' _ _
          · unfold finV; rw [if_neg hf]; exact fun j e => by cases e
          · rw [hR]; exact HX4.out
          · rw [hR]; exact HS4.out
      · have hR := HX.out
        rw [if_pos h0] at hR
        obtain ⟨ad, rfl⟩ := isErr_pos HX3.out h0
        have HX := Lib.hid hR
        clear hR h0 CF
        go_wp2_with fail
        go_ret2
        exact ⟨_, _, rfl, by rw [HX.out]; exact bytes_nil' _ _, (fun j e => by cases e), by rw [HX.out]; exact HX3.out, by rw [HX.out]; exact HS0.out _ B3.out⟩
  · have hx := Lib.hid (show readC14 up ep cs q us = (us, [], placeE ep cs q) from by unfold readC14; rw [if_pos he])
    rw [hx.out]
    have HE0 := Lib.hid he
    clear he hx
    go_enter Tryz.func12, Tryz.ntmps12
    go_wp2_with fail
    refine CP.out.mono ?_
    rintro e w1 ⟨y, rfl, hy, hb⟩
    rcases hy with ⟨_, x1, rfl, hx1⟩ | ⟨hne, _⟩
    · obtain ⟨ad, rfl⟩ := isErr_pos hx1 HE0.out
      have HX := Lib.hid hx1
      have HB := Lib.hid hb
      clear hb hx1 CP
      go_wp2_with fail
      go_ret2
      exact ⟨_, _, rfl, bytes_nil' _ _, (fun j e => by cases e), HX.out, HS0.out _ (HB.out.alloc HB.out.size _)⟩
    · exact absurd hne HE0.out
end
end Go.Proofs.YtiafamacjpgjoaaGreatDoor

/- The document's own chains: Fill. Not tied to package chain's code. -/
namespace Go.Proofs.YtiafamacjpgjoaaGreatDoor
open Go Go.RowKit Tide

theorem put_nine {up : Nat → Bool} {ep at' : Int} {b : List UInt8} {us : Nat → UnitD} {n : Int} {first : Bool} (h : (putC up ep at' b us n first).2 = 9) : (putC up ep at' b us n first).1 = us ∧ upC up n = true := by
  cases hu : upC up n with
  | false => rw [put_down hu] at h; exact absurd (show (12 : Nat) = 9 from h) (by decide)
  | true =>
    refine ⟨?_, rfl⟩
    unfold putC at h ⊢
    rw [if_neg (by simp [hu])] at h ⊢
    split
    · rename_i h1
      rw [if_pos h1] at h
      have h' : (writeD (us n.toNat) ep at' b).2 = 9 := h
      have : (writeD (us n.toNat) ep at' b).1 = us n.toNat := write_err (by rw [h']; decide)
      show updC us n.toNat _ = us
      rw [this, updC_same]
    · rfl
def fillC14 (up : Nat → Bool) (ep : Int) (cs : List (List Int)) (a : Int) (us : Nat → UnitD) : (Nat → UnitD) × List UInt8 × Nat :=
  if placeE ep cs a ≠ 0 then (us, [], placeE ep cs a) else fillC up ep (a / cs.length) us (chainAt cs a)
section
variable {W W' : World} {lo : Nat} {q : Nat → Nat} {H : Nat → Nat → Prop} {us us' : Nat → UnitD} {up : Nat → Bool} {v vp : Value} {cs : List (List Int)} {Ap : Option Addr} {cp b0 o0 c0 : Nat}
end
end Go.Proofs.YtiafamacjpgjoaaGreatDoor

/- Package chain: Fill. -/
namespace Go.Proofs.YtiafamacjpgjoaaGreatDoor
open Go Go.RowKit Tide

theorem junk_own (w : World) : Calls Tryz.prog 44 #[] w fun e w' => e = .returned (.slice (some ⟨w.heap.size, 0, none⟩) 1 1) ∧ Bytes w' w'.heap.size (.slice (some ⟨w.heap.size, 0, none⟩) 1 1) [0] ∧ Below w.heap.size w w' ∧ w.heap.size < w'.heap.size := by
  go_enter Tryz.func44, Tryz.ntmps44
  go_wp2_with fail
  go_ret
  exact ⟨rfl, bytes_zero w, (Below.refl _ _).alloc (Nat.le_refl _) _, by rw [World.size_alloc]; omega⟩
section
variable {D : DvP} {a x : Nat → Addr} {w W W' : World} {lo : Nat → Prop} {m N M : Nat} {g : Nat → Nat} {H : Nat → Nat → Prop} {us us' : Nat → UnitD} {up : Nat → Bool} {v vp : Value} {cs : List (List Int)}
set_option maxRecDepth 100000 in
set_option maxHeartbeats 2000000 in
theorem cfill_any (hD : DvSpec (three a) D) (hE : Errs w a) (h : UCall D w W lo g H m us up v vp cs N) (hN : N + 4 ≤ 90000) (ep q : Int) :
    Calls Tryz.prog 16 #[v, planV ep vp, .int .i64 q] W (ReadW a D w W g H m (N + 4) (fillC14 up ep cs q us)) := by
  obtain ⟨A, c, rfl, hcl⟩ := h.grid.form
  obtain ⟨b0, o0, c0, rfl, _, hrow6⟩ := rowM_form h.ups.1 (h.rows W (Kept.refl _ _))
  clear hrow6 hcl
  obtain ⟨W0, hW0⟩ : ∃ W0, W.alloc (.cells #[.int .i64 ep, .slice A cs.length c] 24) = W0 := ⟨_, rfl⟩
  have B0 := Lib.hid (show Below W.heap.size W W0 from by rw [← hW0]; exact (Below.refl W.heap.size W).alloc (Nat.le_refl _) _)
  have P0 := Lib.hid (show Two W0 W.heap.size 24 (.int .i64 ep) (.slice A cs.length c) from by rw [← hW0]; exact Two.new W _ _ _)
  have HD := Lib.hid hD
  have HE := Lib.hid hE
  have HC := Lib.hid (h.below hD B0.out)
  have HHl := Lib.hid h.unis.lt
  have CP := Lib.hid (cplace_any hD hE HC.out ep q)
  obtain ⟨_, p0, p1, _⟩ := P0.out.facts
  have HS0 := Lib.hid (fun (W1 : World) (hb : Below W0.heap.size W0 W1) => show UnimStep D w W g H m 128 (N + 4) us W1 from UnimStep.after B0.out ((UnimStep.refl HD.out HC.out.unis hb).mono (show N ≤ N + 4 by omega)))
  have HE2 := Lib.hid (fun (W1 : World) (hb : Below W0.heap.size W0 W1) => (HC.out.below HD.out hb).errs HE.out)
  clear h hD hE
  by_cases he : placeE ep cs q = 0
  · have hlen := place_ok he
    obtain ⟨l, hl⟩ : ∃ l, chainAt cs q = l := ⟨_, rfl⟩
    obtain ⟨at', hat⟩ : ∃ z, q / (cs.length : Int) = z := ⟨_, rfl⟩
    have hx0 : fillC14 up ep cs q us = fillC up ep at' us l := by
      unfold fillC14
      rw [if_neg (by rw [he]; decide), hl, hat]
    rw [hl] at hlen
    have HE0 := Lib.hid he
    have HRow := Lib.hid (fun (W1 : World) (vc : Value) (hc : RowS W1 lo vc (int64s (chainAt cs q))) => show RowS W1 lo vc (int64s l) from hl ▸ hc)
    have HAt := Lib.hid hat
    have h0l : 0 < l.length := by omega
    have hhead : l.headD 0 = l[0] := by
      rw [List.headD_eq_head?_getD, List.head?_eq_getElem?, List.getElem?_eq_getElem (by omega)]
      rfl
    unfold fillC fill1 at hx0
    rw [hhead] at hx0
    have CS0 := Lib.hid (fun (W1 : World) (H1 : Nat → Nat → Prop) (vc : Value) (hC : UCall D w W1 lo g H1 m us up (.slice (some ⟨b0, o0, none⟩) m c0) (.slice A cs.length c) cs (N + 1)) (hc : RowS W1 lo vc (int64s l)) => sread_any HD.out HE.out hC ep at' l vc hc 0 h0l)
    have CW := Lib.hid (fun (W1 : World) (vc vb : Value) (hb : Below W0.heap.size W0 W1) (hc : RowS W1 lo vc (int64s l)) (hvb : Bytes W1 W1.heap.size vb [0]) (hap : ∀ j, vb.ownBlock = some j → W.heap.size ≤ j ∧ j < W1.heap.size) =>
      swrite_any HD.out HE.out (by omega) (HC.out.below HD.out hb) ep at' l vc hc 0 h0l vb [0] hvb (fun j hj e => by have h1 := (HHl.out j e).2; have h2 := (hap j hj).1; omega))
    have CF := Lib.hid (fun (W1 : World) (H1 : Nat → Nat → Prop) (us1 : Nat → UnitD) (vc vb : Value) (b : List UInt8) (hC : UCall D w W1 lo g H1 m us1 up (.slice (some ⟨b0, o0, none⟩) m c0) (.slice A cs.length c) cs (N + 1)) (hc : RowS W1 lo vc (int64s l)) (hvb : Bytes W1 W1.heap.size vb b) (hap : ∀ j, vb.ownBlock = some j → ¬ AllM m H1 j ∧ j < W1.heap.size) =>
      finish_any HD.out HE.out hC ep at' l (by omega) vc hc (by omega) vb b hvb hap)
    obtain ⟨n0, hn0⟩ : ∃ n0, l[0] = n0 := ⟨_, rfl⟩
    rw [hn0] at CS0 CW hx0
    have CW : Hid (∀ (W1 : World) (vc vb : Value) (hb : Below W0.heap.size W0 W1) (hc : RowS W1 lo vc (int64s l)) (hvb : Bytes W1 W1.heap.size vb [0]) (hap : ∀ j, vb.ownBlock = some j → W.heap.size ≤ j ∧ j < W1.heap.size), Calls Tryz.prog 45 #[.agg #[.slice (some ⟨b0, o0, none⟩) m c0, .int .i64 ep, vc, .int .i64 at'], .int .i64 0, vb] W1 fun e w' => ∃ x, e = .returned x ∧ IsErr a x (putC up ep at' [0] us n0 true).2 ∧ UnimStep D w W1 g H m 128 (N + 1) (putC up ep at' [0] us n0 true).1 w') := CW
    have HNine := Lib.hid (fun (h9 : (putC up ep at' [0] us n0 true).2 = 9) => put_nine h9)
    obtain ⟨p, hp⟩ : ∃ p, putC up ep at' [0] us n0 true = p := ⟨_, rfl⟩
    rw [hp] at CW hx0 HNine
    obtain ⟨R, hR⟩ : ∃ R, fillC14 up ep cs q us = R := ⟨_, rfl⟩
    rw [hR] at hx0 ⊢
    have HX := Lib.hid hx0
    have HL := Lib.hid hlen
    clear he hlen hl hat hx0 hhead hR h0l hp hn0
    go_enter Tryz.func16, Tryz.ntmps16
    go_wp2_with fail
    refine CP.out.mono ?_
    rintro e w1 ⟨y, rfl, hy, hb⟩
    rcases hy with ⟨hne, _⟩ | ⟨_, vc, rfl, hrow⟩
    · exact absurd HE0.out hne
    have hrow := HRow.out _ _ hrow
    rw [HAt.out]
    obtain ⟨_, A1, c1, rfl, _⟩ := row_ints hrow.1
    obtain ⟨W1, hW1⟩ : ∃ W1, w1.alloc (.cells #[.slice (some ⟨b0, o0, none⟩) m c0, .int .i64 ep, .slice A1 l.length c1, .int .i64 at'] 79) = W1 := ⟨_, rfl⟩
    have B1 := Lib.hid (show Below W0.heap.size W0 W1 from by rw [← hW1]; exact hb.alloc hb.size _)
    have T1 := Lib.hid (show SpotW W1 w1.heap.size (.slice (some ⟨b0, o0, none⟩) m c0) ep (.slice A1 l.length c1) at' from by rw [← hW1]; exact SpotW.new w1 _ _ _ _)
    have HRo := Lib.hid (show RowS W1 lo (.slice A1 l.length c1) (int64s l) from by rw [← hW1]; exact RowS.below hrow ((Below.refl w1.heap.size w1).alloc (Nat.le_refl _) _))
    have HZ1 := Lib.hid (show W.heap.size ≤ w1.heap.size from (B0.out.trans (hb.mono B0.out.size)).size)
    have CJ := Lib.hid (junk_own W1)
    clear hb hrow CP HRow
    go_wp2_with fail
    refine CJ.out.mono ?_
    rintro e w2 ⟨rfl, hv2, hb2, hz2⟩
    have B2 := Lib.hid (B1.out.trans (hb2.mono B1.out.size))
    have HV2 := Lib.hid hv2
    have HO2 := Lib.hid (show ∀ j, (Value.slice (some ⟨W1.heap.size, 0, none⟩) 1 1).ownBlock = some j → W.heap.size ≤ j ∧ j < w2.heap.size from fun j hj => by
      injection hj with hj
      have hj : W1.heap.size = j := hj
      have h1 := (B0.out.trans (B1.out.mono B0.out.size)).size
      omega)
    have T2 := Lib.hid (T1.out.below hb2)
    have HRo2 := Lib.hid (RowS.below HRo.out hb2)
    have C2 := Lib.hid (CW.out w2 _ _ B2.out HRo2.out hv2 HO2.out)
    clear hv2 hb2 hz2 CJ CW hW1
    obtain ⟨s0, s1, s2, s3⟩ := T2.out.facts
    go_wp2_with fail
    refine C2.out.mono ?_
    rintro e w3 ⟨x3, rfl, hx3, hs3⟩
    have HX3 := Lib.hid hx3
    obtain ⟨H3, hC3, g2, g3⟩ := (HC.out.below HD.out B2.out).step hs3
    have HC3 := Lib.hid hC3
    have HTr := Lib.hid (fun (us4 : Nat → UnitD) (W4 : World) (h4 : UnimStep D w w3 g H3 m 128 (N + 4) us4 W4) => UnimStep.after (B0.out.trans (B2.out.mono B0.out.size)) (UnimStep.trans g2 g3 h4))
    have HZ3 := Lib.hid (show w2.heap.size ≤ w3.heap.size from g3.size)
    have T3 := Lib.hid (T2.out.kept g3 (fun e => by have h1 := (HHl.out _ e).2; have h2 := HZ1.out; omega))
    have HRo3 := Lib.hid (RowS.kept HRo2.out g3 (HC.out.below HD.out B2.out).above)
    have HV3 := Lib.hid (show Bytes w3 w3.heap.size (.slice (some ⟨W1.heap.size, 0, none⟩) 1 1) [0] from Row.more (row_kept HV2.out g3 (Nat.le_refl _) (fun j hj e => by have h1 := (HHl.out j e).2; have h2 := (HO2.out j hj).1; omega)) g3.size)
    have HO3 := Lib.hid (show ∀ j, (Value.slice (some ⟨W1.heap.size, 0, none⟩) 1 1).ownBlock = some j → ¬ AllM m H3 j ∧ j < w3.heap.size from fun j hj => ⟨fun ⟨i, hi, e⟩ => by
      rcases g2 i j e with e | e
      · have h1 := (HHl.out j ⟨i, hi, e⟩).2; have h2 := (HO2.out j hj).1; omega
      · have := (HO2.out j hj).2; omega, Nat.lt_of_lt_of_le (HO2.out j hj).2 g3.size⟩)
    have hE3 := hC3.errs HE.out
    have CI := Lib.hid (is_num a x3 p.2 8 w3 hE3 hx3 (by decide))
    have e9 : w3.cell? ⟨9, 0, none⟩ = some (errAt (a 8)) := hE3.var 8 (by decide)
    clear hx3 hs3 hC3 g2 g3 hE3 C2 s0 s1 s2 s3
    obtain ⟨s0, s1, s2, s3⟩ := T3.out.facts
    cases q9 : (p.2 == 8 + 1) with
    | true =>
      have hp9 : p.2 = 9 := by simpa using q9
      obtain ⟨hus, hup⟩ := HNine.out hp9
      have hR := HX.out
      rw [if_pos hp9, hus] at hR
      have hC3 := HC3.out
      rw [hus] at hC3
      have HC3 := Lib.hid hC3
      have C3 := CS0.out w3 _ _ hC3 HRo3.out
      have hS0 : sreadC up ep at' us n0 = readU (us n0.toNat) ep at' := by unfold sreadC; rw [if_neg (by rw [hup]; decide)]
      rw [hS0] at C3
      obtain ⟨S0, hS⟩ : ∃ S0, readU (us n0.toNat) ep at' = S0 := ⟨_, rfl⟩
      rw [hS] at C3 hR
      have C3 := Lib.hid C3
      have HX := Lib.hid hR
      rw [q9] at CI
      clear hR hp9 q9 hus hup hC3 hS0 hS CS0
      go_wp2_with fail
      refine CI.out.mono ?_
      rintro e w4 ⟨rfl, rfl⟩
      clear CI
      go_wp2_with fail
      refine C3.out.mono ?_
      rintro e w4 ⟨v4, x4, rfl, hv4, ho4, hx4, hb4⟩
      obtain ⟨A4, c4, rfl, _⟩ := hv4.form
      have HX4 := Lib.hid hx4
      have HV4 := Lib.hid hv4
      have HC4 := Lib.hid (HC3.out.below HD.out hb4)
      have HZ4 := Lib.hid (show ∀ j, (Value.slice A4 S0.1.length c4).ownBlock = some j → W.heap.size ≤ j from fun j hj => by have h1 := (ho4 j hj).1; have h2 := (B0.out.trans (B2.out.mono B0.out.size)).size; have h3 := HZ3.out; omega)
      have HO4 := Lib.hid (show ∀ j, (Value.slice A4 S0.1.length c4).ownBlock = some j → ¬ AllM m H3 j ∧ j < w4.heap.size from fun j hj => ⟨fun e => by have h1 := (HC3.out.unis.lt j e).2; have h2 := (ho4 j hj).1; omega, (ho4 j hj).2⟩)
      have T4 := Lib.hid (T3.out.below hb4)
      have HRo4 := Lib.hid (RowS.below HRo3.out hb4)
      have HB4 := Lib.hid hb4
      clear hv4 ho4 hx4 hb4 C3 s0 s1 s2 s3 e9
      obtain ⟨s0, s1, s2, s3⟩ := T4.out.facts
      by_cases h0 : S0.2 = 0
      · have hR := HX.out
        rw [if_neg (by rw [h0]; decide)] at hR
        have hx4 := HX4.out
        rw [h0] at hx4
        obtain rfl := isErr_zero hx4 rfl
        have C4 := CF.out w4 H3 us _ _ S0.1 HC4.out HRo4.out HV4.out HO4.out
        obtain ⟨F, hF⟩ : ∃ F, fromC up ep at' S0.1 us 1 (l.drop 1) = F := ⟨_, rfl⟩
        replace hR : R = if F.2 ≠ 0 then (F.1, [], F.2) else (F.1, S0.1, 0) := by rw [← hF]; exact hR
        rw [hF] at C4
        have C4 := Lib.hid C4
        have HFin := Lib.hid hR
        clear hR hx4 h0 hF CF HX4
        go_wp2_with fail
        refine C4.out.mono ?_
        rintro e w5 ⟨x5, rfl, hx5, hs5⟩
        have HX5 := Lib.hid hx5
        have HZ5 := Lib.hid (show w4.heap.size ≤ w5.heap.size from by obtain ⟨_, _, _, g3⟩ := hs5; exact g3.size)
        have HB5 := Lib.hid (show Bytes w5 w5.heap.size (Value.slice A4 S0.1.length c4) S0.1 from by
          obtain ⟨_, _, _, g3⟩ := hs5
          exact Row.more (row_kept HV4.out g3 (Nat.le_refl _) (fun j hj => (HO4.out j hj).1)) g3.size)
        have HS5 := Lib.hid (HTr.out _ w5 (UnimStep.after HB4.out (hs5.mono (show N + 1 + l.length ≤ N + 4 by have := HL.out; omega))))
        clear hx5 hs5 C4 s0 s1 s2 s3
        go_wp2_with fail
        go_ret2
        by_cases hf : F.2 = 0
        · have hR := HFin.out
          rw [if_neg (by rw [hf]; decide)] at hR
          refine ⟨_, _, rfl, ?_, ?_, ?_, ?_⟩
          · rw [hR]; unfold finV; rw [if_pos hf]; exact HB5.out
          · unfold finV; rw [if_pos hf]; exact fun j hj => ⟨HZ4.out j hj, Nat.lt_of_lt_of_le (HO4.out j hj).2 HZ5.out⟩
          · rw [hR]; have := HX5.out; rw [hf] at this; exact this
          · rw [hR]; exact HS5.out
        · have hR := HFin.out
          rw [if_pos hf] at hR
          refine ⟨_, _, rfl, ?_, ?_, ?_, ?_⟩
          · rw [hR]; unfold finV; rw [if_neg hf]; exact bytes_nil' _ _
          · unfold finV; rw [if_neg hf]; exact (fun j e => by cases e)
          · rw [hR]; exact HX5.out
          · rw [hR]; exact HS5.out
      · have hR := HX.out
        rw [if_pos h0] at hR
        obtain ⟨ad, rfl⟩ := isErr_pos HX4.out h0
        have HX := Lib.hid hR
        have HS4 := Lib.hid (HTr.out _ w4 ((UnimStep.refl HD.out HC3.out.unis HB4.out).mono (show N + 1 ≤ N + 4 by omega)))
        clear hR h0 CF
        go_wp2_with fail
        go_ret2
        exact ⟨_, _, rfl, by rw [HX.out]; exact bytes_nil' _ _, (fun j e => by cases e), by rw [HX.out]; exact HX4.out, by rw [HX.out]; exact HS4.out⟩
    | false =>
      have hp9 : p.2 ≠ 9 := by simpa using q9
      have hR := HX.out
      rw [if_neg hp9] at hR
      have HX := Lib.hid hR
      rw [q9] at CI
      clear hR hp9 q9 CS0 HNine
      by_cases h0 : p.2 = 0
      · have hR := HX.out
        rw [if_neg (by rw [h0]; decide)] at hR
        have hx3 := HX3.out
        rw [h0] at hx3
        obtain rfl := isErr_zero hx3 rfl
        have C4 := CF.out w3 H3 p.1 _ _ [0] HC3.out HRo3.out HV3.out HO3.out
        obtain ⟨F, hF⟩ : ∃ F, fromC up ep at' [0] p.1 1 (l.drop 1) = F := ⟨_, rfl⟩
        replace hR : R = if F.2 ≠ 0 then (F.1, [], F.2) else (F.1, [0], 0) := by rw [← hF]; exact hR
        rw [hF] at C4
        have C4 := Lib.hid C4
        have HFin := Lib.hid hR
        clear hR hx3 h0 hF CF HX3
        go_wp2_with fail
        refine CI.out.mono ?_
        rintro e w4 ⟨rfl, rfl⟩
        clear CI e9
        go_wp2_with fail
        refine C4.out.mono ?_
        rintro e w5 ⟨x5, rfl, hx5, hs5⟩
        have HX5 := Lib.hid hx5
        have HZ5 := Lib.hid (show w3.heap.size ≤ w5.heap.size from by obtain ⟨_, _, _, g3⟩ := hs5; exact g3.size)
        have HB5 := Lib.hid (show Bytes w5 w5.heap.size (.slice (some ⟨W1.heap.size, 0, none⟩) 1 1) [0] from by
          obtain ⟨_, _, _, g3⟩ := hs5
          exact Row.more (row_kept HV3.out g3 (Nat.le_refl _) (fun j hj => (HO3.out j hj).1)) g3.size)
        have HS5 := Lib.hid (HTr.out _ w5 (hs5.mono (show N + 1 + l.length ≤ N + 4 by have := HL.out; omega)))
        clear hx5 hs5 C4 s0 s1 s2 s3
        go_wp2_with fail
        go_ret2
        by_cases hf : F.2 = 0
        · have hR := HFin.out
          rw [if_neg (by rw [hf]; decide)] at hR
          refine ⟨_, _, rfl, ?_, ?_, ?_, ?_⟩
          · rw [hR]; unfold finV; rw [if_pos hf]; exact HB5.out
          · unfold finV; rw [if_pos hf]; exact fun j hj => ⟨(HO2.out j hj).1, Nat.lt_of_lt_of_le (HO3.out j hj).2 HZ5.out⟩
          · rw [hR]; have := HX5.out; rw [hf] at this; exact this
          · rw [hR]; exact HS5.out
        · have hR := HFin.out
          rw [if_pos hf] at hR
          refine ⟨_, _, rfl, ?_, ?_, ?_, ?_⟩
          · rw [hR]; unfold finV; rw [if_neg hf]; exact bytes_nil' _ _
          · unfold finV; rw [if_neg hf]; exact (fun j e => by cases e)
          · rw [hR]; exact HX5.out
          · rw [hR]; exact HS5.out
      · have hR := HX.out
        rw [if_pos h0] at hR
        obtain ⟨ad, rfl⟩ := isErr_pos HX3.out h0
        have HFin := Lib.hid hR
        have HS4 := Lib.hid (HTr.out _ w3 ((UnimStep.refl HD.out HC3.out.unis (Below.refl _ _)).mono (show N + 1 ≤ N + 4 by omega)))
        clear hR h0 CF
        go_wp2_with fail
        refine CI.out.mono ?_
        rintro e w4 ⟨rfl, rfl⟩
        clear CI e9
        go_wp2_with fail
        go_ret2
        exact ⟨_, _, rfl, by rw [HFin.out]; exact bytes_nil' _ _, (fun j e => by cases e), by rw [HFin.out]; exact HX3.out, by rw [HFin.out]; exact HS4.out⟩
  · have hx := Lib.hid (show fillC14 up ep cs q us = (us, [], placeE ep cs q) from by unfold fillC14; rw [if_pos he])
    rw [hx.out]
    have HE0 := Lib.hid he
    clear he hx
    go_enter Tryz.func16, Tryz.ntmps16
    go_wp2_with fail
    refine CP.out.mono ?_
    rintro e w1 ⟨y, rfl, hy, hb⟩
    rcases hy with ⟨_, x1, rfl, hx1⟩ | ⟨hne, _⟩
    · obtain ⟨ad, rfl⟩ := isErr_pos hx1 HE0.out
      have HX := Lib.hid hx1
      have HB := Lib.hid hb
      clear hb hx1 CP
      go_wp2_with fail
      go_ret2
      exact ⟨_, _, rfl, bytes_nil' _ _, (fun j e => by cases e), HX.out, HS0.out _ (HB.out.alloc HB.out.size _)⟩
    · exact absurd hne HE0.out
end
end Go.Proofs.YtiafamacjpgjoaaGreatDoor

/- The document's own chains: Trim. Not tied to package chain's code. -/
namespace Go.Proofs.YtiafamacjpgjoaaGreatDoor
open Go Go.RowKit Tide

def trimC14 (up : Nat → Bool) (ep : Int) (cs : List (List Int)) (tz : Int) (us : Nat → UnitD) : (Nat → UnitD) × Nat :=
  if rightB ep cs = false then (us, 4) else if tz < 0 ∨ 4096 < tz then (us, 1) else trimC up ep cs.length tz.toNat us 0 cs
theorem trims_cons (up : Nat → Bool) (ep own : Int) (us : Nat → UnitD) (n : Int) (l : List Int) : trimsC up ep own us (n :: l) = if upC up n = false then (us, 12) else if (trimD (us n.toNat) ep own).2 ≠ 0 then (updC us n.toNat (trimD (us n.toNat) ep own).1, (trimD (us n.toNat) ep own).2) else trimsC up ep own (updC us n.toNat (trimD (us n.toNat) ep own).1) l := rfl
theorem trim_cons (up : Nat → Bool) (ep : Int) (n tz : Nat) (us : Nat → UnitD) (c : Nat) (l : List Int) (cs : List (List Int)) : trimC up ep n tz us c (l :: cs) = if (trimsC up ep (ownC n c tz) us l).2 ≠ 0 then trimsC up ep (ownC n c tz) us l else trimC up ep n tz (trimsC up ep (ownC n c tz) us l).1 (c + 1) cs := rfl
theorem own_step {n c tz o : Nat} (hn : 0 < n) (h : o ≤ ownC n c tz) : (o * n + c < tz → o + 1 ≤ ownC n c tz) ∧ (¬ o * n + c < tz → o = ownC n c tz) := by
  unfold ownC at *
  constructor
  · intro hlt
    rw [Nat.le_div_iff_mul_le hn]
    have : (o + 1) * n = o * n + n := by rw [Nat.add_mul, Nat.one_mul]
    omega
  · intro hge
    have : (tz - c + n - 1) / n ≤ o := by
      rw [Nat.div_le_iff_le_mul_add_pred hn]
      have : n * o = o * n := Nat.mul_comm _ _
      omega
    omega
section
variable {W W' : World} {lo : Nat} {q : Nat → Nat} {H : Nat → Nat → Prop} {us us' : Nat → UnitD} {up : Nat → Bool} {v vp : Value} {cs : List (List Int)} {Ap : Option Addr} {cp b0 o0 c0 : Nat}
end
end Go.Proofs.YtiafamacjpgjoaaGreatDoor

/- The document's own chains: Tail. Not tied to package chain's code. -/
namespace Go.Proofs.YtiafamacjpgjoaaGreatDoor
open Go Go.RowKit Tide

section
variable {W W' : World} {lo : Nat} {q : Nat → Nat} {H : Nat → Nat → Prop} {us us' : Nat → UnitD} {up : Nat → Bool} {v vp : Value} {cs : List (List Int)} {Ap : Option Addr} {cp b0 o0 c0 : Nat}
end
end Go.Proofs.YtiafamacjpgjoaaGreatDoor

/- Behind a trim of chains all below is trimmed, and all else is as it was: of units that are all up. No walk stands here. -/
namespace Go.Proofs.YtiafamacjpgjoaaGreatDoor
open Go.RowKit Tide

def allUp : Nat → Bool := fun _ => true
theorem up_all {n : Int} (h0 : 0 ≤ n) (h6 : n < 6) : upC allUp n = true := by
  unfold upC allUp
  simp [h0, h6]
def setL (us : Nat → UnitD) (l : List Int) (u : UnitD) : Nat → UnitD := fun m => if (m : Int) ∈ l then u else us m
theorem setL_nil (us : Nat → UnitD) (u : UnitD) : setL us [] u = us := by funext m; simp [setL]
theorem setL_cons (us : Nat → UnitD) (n : Int) (h0 : 0 ≤ n) (l : List Int) (u : UnitD) : setL (updC us n.toNat u) l u = setL us (n :: l) u := by
  funext m
  unfold setL updC
  by_cases h1 : (m : Int) ∈ l
  · rw [if_pos h1, if_pos (List.mem_cons_of_mem _ h1)]
  · rw [if_neg h1]
    by_cases h2 : m = n.toNat
    · rw [if_pos h2, if_pos (by rw [List.mem_cons]; left; omega)]
    · rw [if_neg h2, if_neg (by rw [List.mem_cons]; rintro (h | h); omega; exact h1 h)]
theorem setL_in {us : Nat → UnitD} {l : List Int} {u : UnitD} {n : Int} (h0 : 0 ≤ n) (h : n ∈ l) : setL us l u n.toNat = u := by
  unfold setL
  rw [if_pos (by rw [Int.toNat_of_nonneg h0]; exact h)]
theorem setL_out {us : Nat → UnitD} {l : List Int} {u : UnitD} {n : Int} (h0 : 0 ≤ n) (h : n ∉ l) : setL us l u n.toNat = us n.toNat := by
  unfold setL
  rw [if_neg (by rw [Int.toNat_of_nonneg h0]; exact h)]
def SixC (l : List Int) : Prop := ∀ n ∈ l, 0 ≤ n ∧ n < 6
def SameC (us : Nat → UnitD) (l : List Int) (u : UnitD) : Prop := ∀ n ∈ l, us n.toNat = u
theorem from_same (ep at' : Int) (b : List UInt8) (u : UnitD) (h : (writeD u ep at' b).2 = 0) : ∀ (l : List Int) (us : Nat → UnitD) (k : Nat), SixC l → l.Nodup → SameC us l u → fromC allUp ep at' b us k l = (setL us l (writeD u ep at' b).1, 0)
  | [], us, k, _, _, _ => by rw [setL_nil]; rfl
  | n :: l, us, k, h6, hn, hs => by
    have hx := h6 n (List.mem_cons_self ..)
    have hp : putC allUp ep at' b us n (k == 0) = (updC us n.toNat (writeD u ep at' b).1, 0) := by
      unfold putC
      rw [if_neg (by rw [up_all hx.1 hx.2]; simp), hs n (List.mem_cons_self ..), if_pos (.inl (by rw [h]; decide)), h]
    rw [List.nodup_cons] at hn
    rw [from_cons, hp, if_neg (by simp), ← setL_cons us n hx.1]
    refine from_same ep at' b u h l _ _ (fun m hm => h6 m (List.mem_cons_of_mem _ hm)) hn.2 (fun m hm => ?_)
    have hm0 := (h6 m (List.mem_cons_of_mem _ hm)).1
    show updC us n.toNat _ m.toNat = u
    rw [updC_ne _ _ (by intro e; have : m = n := by omega
                        subst this; exact hn.1 hm)]
    exact hs m (List.mem_cons_of_mem _ hm)
theorem from_fails (ep at' : Int) (b : List UInt8) (u : UnitD) (h : (writeD u ep at' b).2 ≠ 0) {n : Int} {l : List Int} {us : Nat → UnitD} (h6 : SixC (n :: l)) (hs : SameC us (n :: l) u) : fromC allUp ep at' b us 0 (n :: l) = (us, (writeD u ep at' b).2) := by
  have hx := h6 n (List.mem_cons_self ..)
  have hp : putC allUp ep at' b us n true = (us, (writeD u ep at' b).2) := by
    unfold putC
    rw [if_neg (by rw [up_all hx.1 hx.2]; simp), if_pos (.inr rfl)]
    have e := hs n (List.mem_cons_self ..)
    rw [write_err (by rw [e]; exact h), updC_same, e]
  rw [from_cons, show ((0 : Nat) == 0) = true from rfl, hp, if_pos h]
theorem trims_same (ep own : Int) (u : UnitD) (h : (trimD u ep own).2 = 0) : ∀ (l : List Int) (us : Nat → UnitD), SixC l → l.Nodup → SameC us l u → trimsC allUp ep own us l = (setL us l (trimD u ep own).1, 0)
  | [], us, _, _, _ => by rw [setL_nil]; rfl
  | n :: l, us, h6, hn, hs => by
    have hx := h6 n (List.mem_cons_self ..)
    rw [List.nodup_cons] at hn
    rw [trims_cons, if_neg (by rw [up_all hx.1 hx.2]; simp), hs n (List.mem_cons_self ..), if_neg (by rw [h]; simp), ← setL_cons us n hx.1]
    refine trims_same ep own u h l _ (fun m hm => h6 m (List.mem_cons_of_mem _ hm)) hn.2 (fun m hm => ?_)
    have hm0 := (h6 m (List.mem_cons_of_mem _ hm)).1
    show updC us n.toNat _ m.toNat = u
    rw [updC_ne _ _ (by intro e; have : m = n := by omega
                        subst this; exact hn.1 hm)]
    exact hs m (List.mem_cons_of_mem _ hm)
theorem trims_fails (ep own : Int) (u : UnitD) (h : (trimD u ep own).2 ≠ 0) {n : Int} {l : List Int} {us : Nat → UnitD} (h6 : SixC (n :: l)) (hs : SameC us (n :: l) u) : (trimsC allUp ep own us (n :: l)).2 = (trimD u ep own).2 := by
  have hx := h6 n (List.mem_cons_self ..)
  rw [trims_cons, if_neg (by rw [up_all hx.1 hx.2]; simp), hs n (List.mem_cons_self ..), if_pos h]
structure FreshU (u : UnitD) : Prop where
  epoch : u.epoch = 0
  trimmed : u.trimmed = 0
  bytes : ∀ r ∈ u.rows, r.bs ≠ []
theorem FreshU.write {u : UnitD} (h : FreshU u) (ep at' : Int) (b : List UInt8) : FreshU (writeD u ep at' b).1 := by
  unfold writeD
  split
  · exact h
  split
  · exact h
  rename_i hb
  split
  · exact h
  split
  · exact h
  split
  · exact ⟨h.epoch, h.trimmed, h.bytes⟩
  · refine ⟨h.epoch, h.trimmed, fun r hr => ?_⟩
    rcases List.mem_append.1 hr with hr | hr
    · exact h.bytes r hr
    · rw [List.mem_singleton] at hr
      subst hr
      intro e
      have e : b = [] := e
      rw [e] at hb
      exact hb (.inl (by simp))
theorem check_fresh {ep a most : Int} (h0 : 0 ≤ ep) (h1 : ep ≤ 1000) (ha : 0 ≤ a) (hm : a ≤ most) : checkD 0 ep a most = 0 := by
  unfold checkD
  rw [if_neg (by omega), if_neg (by omega)]
theorem FreshU.read {u : UnitD} (h : FreshU u) {ep at' : Int} (h0 : 0 ≤ ep) (h1 : ep ≤ 1000) (ha : 0 ≤ at') (hm : at' ≤ 4095) : (((readU u ep at').2 = 0 ∧ (readU u ep at').1 ≠ []) ∨ ((readU u ep at').2 = 10 ∧ (readU u ep at').1 = [])) := by
  unfold readU
  rw [h.epoch, h.trimmed, if_neg (by rw [check_fresh h0 h1 ha hm]; simp), if_neg (by omega)]
  cases hf : u.rows.find? fun p => (p.adr : Int) == at' with
  | none => exact .inr ⟨rfl, rfl⟩
  | some p => exact .inl ⟨rfl, h.bytes p (List.mem_of_find?_eq_some hf)⟩
theorem FreshU.trim {u : UnitD} (h : FreshU u) {ep : Int} {own : Nat} (h0 : 0 ≤ ep) (h1 : ep ≤ 1000) (ho : own ≤ 4096) :
    ((trimD u ep own).2 = 13 ∨ (trimD u ep own).2 = 0) ∧ ((trimD u ep own).2 = 0 → ∀ at' : Int, 0 ≤ at' → at' ≤ 4095 → readU (trimD u ep own).1 ep at' = if at' < own then ([], 11) else readU u ep at') := by
  unfold trimD
  rw [h.epoch, h.trimmed, if_neg (by rw [check_fresh h0 h1 (by omega) (by omega)]; simp)]
  by_cases hz : (own : Int) ≤ ((0 : Nat) : Int)
  · rw [if_pos hz]
    refine ⟨.inr rfl, fun _ at' ha _ => ?_⟩
    rw [if_neg (by omega)]
  rw [if_neg hz]
  by_cases hp : (putRec u ⟨2, (own : Int).toNat, 0, []⟩).2.2 ≠ 0
  · rw [if_pos hp]
    have hl : 1 ≤ (encR ⟨2, (own : Int).toNat, 0, []⟩).length ∧ (encR ⟨2, (own : Int).toNat, 0, []⟩).length ≤ 100 := by
      have l1 := num7_pos 2
      have l2 := num7_len9 (n := 2) (by decide)
      have l3 := num7_len9 (n := (own : Int).toNat) (by omega)
      have l4 := num7_len9 (n := 0) (by decide)
      unfold encR
      rw [if_neg (by simp), if_pos rfl]
      simp only [List.length_append]
      omega
    have he : (putRec u ⟨2, (own : Int).toNat, 0, []⟩).2.2 = 13 := by
      unfold putRec at hp ⊢
      unfold appendD at hp ⊢
      rw [if_neg (by omega)] at hp ⊢
      split at hp
      · exact absurd rfl hp
      · rename_i hs
        rw [if_neg hs]
        split at hp
        · rfl
        · exact absurd rfl hp
    refine ⟨.inl (by rw [he]; rfl), fun h => ?_⟩
    have h : (putRec u ⟨2, (own : Int).toNat, 0, []⟩).2.2.toNat = 0 := h
    rw [he] at h
    exact absurd h (by decide)
  · rw [if_neg hp]
    refine ⟨.inr rfl, fun _ at' ha hm => ?_⟩
    unfold readU
    rw [h.epoch, h.trimmed]
    have hc := check_fresh h0 h1 ha hm
    have hz0 : ¬ at' < ((0 : Nat) : Int) := by omega
    have ht : (((own : Int).toNat : Nat) : Int) = (own : Int) := by omega
    show (if checkD 0 ep at' 4095 ≠ 0 then (([], checkD 0 ep at' 4095) : List UInt8 × Nat) else if at' < (((own : Int).toNat : Nat) : Int) then ([], 11) else match u.rows.find? fun p => (p.adr : Int) == at' with | none => ([], 10) | some p => (p.bs, 0)) = if at' < (own : Int) then ([], 11) else if checkD 0 ep at' 4095 ≠ 0 then ([], checkD 0 ep at' 4095) else if at' < ((0 : Nat) : Int) then ([], 11) else match u.rows.find? fun p => (p.adr : Int) == at' with | none => ([], 10) | some p => (p.bs, 0)
    rw [hc, ht, if_neg (show ¬ (0 : Nat) ≠ 0 by decide), if_neg (show ¬ (0 : Nat) ≠ 0 by decide), if_neg hz0]
structure FreshC (cs : List (List Int)) (us : Nat → UnitD) : Prop where
  one : ∀ c ∈ cs, ∃ u, FreshU u ∧ SameC us c u
structure PlanT (ep : Int) (cs : List (List Int)) : Prop where
  right : rightB ep cs = true
  small : ep ≤ 1000
  six : ∀ n ∈ cs.flatten, n ≤ 5
section
variable {ep : Int} {cs : List (List Int)} {us : Nat → UnitD}
theorem PlanT.sixC (h : PlanT ep cs) {c : List Int} (hc : c ∈ cs) : SixC c := fun n hn => by
  have hf : n ∈ cs.flatten := List.mem_flatten.2 ⟨c, hc, hn⟩
  have := (right_parts h.right).2.2.2.2.2.1 n hf
  have := h.six n hf
  omega
theorem PlanT.nodup (h : PlanT ep cs) {c : List Int} (hc : c ∈ cs) : c.Nodup := by
  have := (right_parts h.right).2.2.2.2.2.2
  unfold List.Nodup at this
  rw [List.pairwise_flatten] at this
  exact this.1 c hc
theorem flat_apart : ∀ {cs : List (List Int)} {i j : Nat} (hi : i < cs.length) (hj : j < cs.length), cs.flatten.Nodup → i ≠ j → ∀ n, n ∈ cs[i] → n ∉ cs[j] := by
  intro cs i j hi hj hn hne n h1 h2
  unfold List.Nodup at hn
  rw [List.pairwise_flatten] at hn
  have hp := List.pairwise_iff_getElem.1 hn.2
  rcases Nat.lt_or_ge i j with h | h
  · exact hp i j hi hj h n h1 n h2 rfl
  · exact hp j i hj hi (by omega) n h2 n h1 rfl
theorem PlanT.chain (h : PlanT ep cs) (a : Int) : ∃ k, ∃ hk : k < cs.length, a.toNat % cs.length = k ∧ chainAt cs a = cs[k] := by
  obtain ⟨_, _, h1, _⟩ := right_parts h.right
  have hk : a.toNat % cs.length < cs.length := Nat.mod_lt _ (by omega)
  exact ⟨_, hk, rfl, int64s_chain hk rfl⟩
theorem PlanT.place (h : PlanT ep cs) {a : Int} (h0 : 0 ≤ a) (h1 : a ≤ 4095) : placeE ep cs a = 0 := by
  unfold placeE
  rw [if_neg (by rw [h.right]; simp), if_neg (by omega)]
theorem FreshC.set (h : FreshC cs us) (hp : PlanT ep cs) {k : Nat} (hk : k < cs.length) {u : UnitD} (hu : FreshU u) : FreshC cs (setL us cs[k] u) := by
  refine ⟨fun c hc => ?_⟩
  obtain ⟨j, hj, rfl⟩ := List.getElem_of_mem hc
  by_cases e : j = k
  · subst e
    exact ⟨u, hu, fun n hn => setL_in (hp.sixC hc n hn).1 hn⟩
  · obtain ⟨v, h1, h2⟩ := h.one _ hc
    exact ⟨v, h1, fun n hn => by rw [setL_out (hp.sixC hc n hn).1 (flat_apart hj hk (right_parts hp.right).2.2.2.2.2.2 e n hn)]; exact h2 n hn⟩
theorem FreshC.write (h : FreshC cs us) (hp : PlanT ep cs) {a : Int} (h0 : 0 ≤ a) (h1 : a ≤ 4095) (b : List UInt8) : FreshC cs (writeC allUp ep cs a b us).1 := by
  unfold writeC
  rw [if_neg (by rw [hp.place h0 h1]; simp)]
  obtain ⟨k, hk, _, e⟩ := hp.chain a
  rw [e]
  obtain ⟨u, hu, hs⟩ := h.one _ (List.getElem_mem hk)
  by_cases hz : (writeD u ep (a / cs.length) b).2 = 0
  · rw [from_same ep _ b u hz _ us 0 (hp.sixC (List.getElem_mem hk)) (hp.nodup (List.getElem_mem hk)) hs]
    exact h.set hp hk (hu.write _ _ _)
  · have hl := (right_parts hp.right).2.2.2.2.1 _ (List.getElem_mem hk)
    have h6 := hp.sixC (List.getElem_mem hk)
    revert hs h6 hl
    generalize cs[k] = c
    intro hs hl h6
    cases c with
    | nil => simp at hl
    | cons n l => rw [from_fails ep _ b u hz h6 hs]; exact h
theorem head_in {c : List Int} (h : 1 ≤ c.length) : c.headD 0 ∈ c := by
  cases c with
  | nil => simp at h
  | cons n l => exact List.mem_cons_self ..
theorem last_in {c : List Int} (h : 1 ≤ c.length) : c.getLastD 0 ∈ c := by
  rw [last_at c (c.length - 1) (by omega)]
  exact List.getElem_mem _
theorem read_same (hp : PlanT ep cs) {a : Int} (h0 : 0 ≤ a) (h1 : a ≤ 4095) {u : UnitD} (hs : SameC us (chainAt cs a) u) (h10 : (readU u ep (a / cs.length)).2 = 10 → (readU u ep (a / cs.length)).1 = []) :
    readC14 allUp ep cs a us = (us, readU u ep (a / cs.length)) := by
  obtain ⟨k, hk, _, e⟩ := hp.chain a
  have hl := (right_parts hp.right).2.2.2.2.1 _ (List.getElem_mem hk)
  have h6 := hp.sixC (List.getElem_mem hk)
  rw [← e] at hl h6
  unfold readC14
  rw [if_neg (by rw [hp.place h0 h1]; simp)]
  unfold readC
  have hi := last_in hl.1
  have hh := head_in hl.1
  rw [if_neg (by rw [up_all (h6 _ hi).1 (h6 _ hi).2]; simp), hs _ hi]
  split
  · rfl
  rename_i hn
  have hn : (readU u ep (a / cs.length)).2 = 10 := Classical.byContradiction fun hc => hn (.inl hc)
  rw [if_neg (by rw [up_all (h6 _ hh).1 (h6 _ hh).2]; simp), hs _ hh, if_pos (by rw [hn]; decide)]
  have := h10 hn
  revert hn this
  generalize readU u ep (a / cs.length) = r
  intro hn this
  rw [← this]
theorem FreshC.read (h : FreshC cs us) (hp : PlanT ep cs) {a : Int} (h0 : 0 ≤ a) (h1 : a ≤ 4095) : ∃ u, FreshU u ∧ SameC us (chainAt cs a) u ∧ readC14 allUp ep cs a us = (us, readU u ep (a / cs.length)) := by
  obtain ⟨k, hk, _, e⟩ := hp.chain a
  obtain ⟨u, hu, hs⟩ := h.one _ (List.getElem_mem hk)
  rw [← e] at hs
  obtain ⟨_, _, g1, _⟩ := right_parts hp.right
  have hd1 : 0 ≤ a / (cs.length : Int) := Int.ediv_nonneg h0 (by omega)
  have hd2 : a / (cs.length : Int) ≤ 4095 := Int.le_trans (Int.ediv_le_self _ h0) h1
  refine ⟨u, hu, hs, read_same hp h0 h1 hs fun h => ?_⟩
  rcases hu.read (right_parts hp.right).1 hp.small hd1 hd2 with h' | h'
  · rw [h'.1] at h; exact absurd h (by decide)
  · exact h'.2
theorem own_le {n c tz : Nat} (hn : 1 ≤ n) : ownC n c tz ≤ tz := by
  unfold ownC
  rw [Nat.div_le_iff_le_mul_add_pred (by omega)]
  have : tz ≤ n * tz := Nat.le_mul_of_pos_left _ (by omega)
  omega
theorem trim_all (hp : PlanT ep cs) {tz : Nat} (ht : tz ≤ 4096) : ∀ (d k : Nat) (us : Nat → UnitD), d + k = cs.length → (∀ j, k ≤ j → (hj : j < cs.length) → ∃ u, FreshU u ∧ SameC us cs[j] u) →
    ((trimC allUp ep cs.length tz us k (cs.drop k)).2 = 13 ∨ ((trimC allUp ep cs.length tz us k (cs.drop k)).2 = 0 ∧
      (∀ j, k ≤ j → (hj : j < cs.length) → ∃ u, FreshU u ∧ SameC us cs[j] u ∧ (trimD u ep (ownC cs.length j tz : Nat)).2 = 0 ∧ SameC (trimC allUp ep cs.length tz us k (cs.drop k)).1 cs[j] (trimD u ep (ownC cs.length j tz : Nat)).1) ∧
      (∀ j, (hj : j < cs.length) → j < k → ∀ n ∈ cs[j], (trimC allUp ep cs.length tz us k (cs.drop k)).1 n.toNat = us n.toNat)))
  | 0, k, us, hk, _ => by
    have : cs.drop k = [] := List.drop_eq_nil_of_le (by omega)
    rw [this]
    exact .inr ⟨rfl, fun j h1 h2 => by omega, fun _ _ _ _ _ => rfl⟩
  | d + 1, k, us, hk, hF => by
    have hlt : k < cs.length := by omega
    obtain ⟨p1, _, g1, _, g5, _, g7⟩ := right_parts hp.right
    obtain ⟨u, hu, hs⟩ := hF k (Nat.le_refl _) hlt
    have hd : cs.drop k = cs[k] :: cs.drop (k + 1) := List.drop_eq_getElem_cons hlt
    have ho := Nat.le_trans (own_le (n := cs.length) (c := k) (tz := tz) g1) ht
    have hft := hu.trim p1 hp.small ho
    have h6 := hp.sixC (List.getElem_mem hlt)
    rw [hd, trim_cons]
    rcases hft.1 with h13 | h0
    · left
      have : (trimsC allUp ep (ownC cs.length k tz : Nat) us cs[k]).2 = 13 := by
        have hl := g5 _ (List.getElem_mem hlt)
        revert hs h6 hl
        generalize cs[k] = c
        intro hs h6 hl
        cases c with
        | nil => simp at hl
        | cons n l => rw [trims_fails ep _ u (by rw [h13]; decide) h6 hs, h13]
      rw [if_pos (by rw [this]; decide), this]
    · rw [trims_same ep _ u h0 _ us h6 (hp.nodup (List.getElem_mem hlt)) hs, if_neg (by simp)]
      obtain ⟨t, ht1⟩ : ∃ t, (trimD u ep (ownC cs.length k tz : Nat)).1 = t := ⟨_, rfl⟩
      have hout : ∀ j (hj : j < cs.length), j ≠ k → ∀ n ∈ cs[j], setL us cs[k] t n.toNat = us n.toNat := fun j hj hne n hn => setL_out (hp.sixC (List.getElem_mem hj) n hn).1 (flat_apart hj hlt g7 hne n hn)
      have ih := trim_all hp ht d (k + 1) (setL us cs[k] t) (by omega) (fun j h1 h2 => by
        obtain ⟨v, hv, hvs⟩ := hF j (by omega) h2
        exact ⟨v, hv, fun n hn => (hout j h2 (by omega) n hn).trans (hvs n hn)⟩)
      rw [ht1]
      rcases ih with ih | ⟨i1, i2, i3⟩
      · exact .inl ih
      · refine .inr ⟨i1, fun j h1 h2 => ?_, fun j hj h1 n hn => (i3 j hj (by omega) n hn).trans (hout j hj (by omega) n hn)⟩
        by_cases e : j = k
        · subst e
          refine ⟨u, hu, hs, h0, fun n hn => ?_⟩
          rw [i3 j h2 (by omega) n hn, ht1]
          exact setL_in (h6 n hn).1 hn
        · obtain ⟨v, v1, v2, v3, v4⟩ := i2 j (by omega) h2
          refine ⟨v, v1, fun n hn => ?_, v3, v4⟩
          rw [← hout j h2 e n hn]
          exact v2 n hn
theorem own_iff {N tz : Nat} (hN : 1 ≤ N) {a : Nat} : a / N < ownC N (a % N) tz ↔ a < tz := by
  unfold ownC
  have hm := Nat.div_add_mod a N
  have hr : a % N < N := Nat.mod_lt _ (by omega)
  obtain ⟨q, hq⟩ : ∃ q, a / N = q := ⟨_, rfl⟩
  obtain ⟨r, hr2⟩ : ∃ r, a % N = r := ⟨_, rfl⟩
  rw [hq, hr2] at hm ⊢
  rw [hr2] at hr
  rw [Nat.lt_div_iff_mul_lt (by omega)]
  have e : q * N = N * q := Nat.mul_comm _ _
  constructor <;> intro h <;> omega
theorem trim_then (hp : PlanT ep cs) (h : FreshC cs us) {tz : Nat} (ht : tz ≤ 4096) :
    (trimC14 allUp ep cs tz us).2 = 13 ∨ ((trimC14 allUp ep cs tz us).2 = 0 ∧ ∀ a : Nat, a ≤ 4095 → readC14 allUp ep cs a (trimC14 allUp ep cs tz us).1 = ((trimC14 allUp ep cs tz us).1, if a < tz then ([], 11) else (readC14 allUp ep cs a us).2)) := by
  obtain ⟨p1, _, g1, _⟩ := right_parts hp.right
  have hx : trimC14 allUp ep cs tz us = trimC allUp ep cs.length tz us 0 (cs.drop 0) := by
    unfold trimC14
    rw [if_neg (by rw [hp.right]; simp), if_neg (by omega), Int.toNat_natCast, List.drop_zero]
  rw [hx]
  rcases trim_all hp ht cs.length 0 us (by omega) (fun j _ hj => h.one _ (List.getElem_mem hj)) with h13 | ⟨h0, h2, _⟩
  · exact .inl h13
  · refine .inr ⟨h0, fun a ha => ?_⟩
    obtain ⟨k, hk, e1, e⟩ := hp.chain (a : Int)
    rw [Int.toNat_natCast] at e1
    obtain ⟨u, u1, u2, u3, u4⟩ := h2 k (Nat.zero_le _) hk
    have hd : (a : Int) / (cs.length : Int) = ((a / cs.length : Nat) : Int) := by push_cast; rfl
    have hle : a / cs.length ≤ 4095 := Nat.le_trans (Nat.div_le_self _ _) ha
    have hle2 : ((a / cs.length : Nat) : Int) ≤ 4095 := Int.le_trans (Int.ofNat_le.2 hle) (by decide)
    have ho := Nat.le_trans (own_le (n := cs.length) (c := k) (tz := tz) g1) ht
    have hr := (u1.trim p1 hp.small ho).2 u3 ((a / cs.length : Nat) : Int) (Int.natCast_nonneg _) hle2
    have hb : readC14 allUp ep cs (a : Int) us = (us, readU u ep ((a / cs.length : Nat) : Int)) := by
      rw [read_same (us := us) hp (by omega) (by omega) (by rw [e]; exact u2) ?_, hd]
      rw [hd]
      intro h
      rcases u1.read (at' := ((a / cs.length : Nat) : Int)) p1 hp.small (Int.natCast_nonneg _) hle2 with h' | h'
      · rw [h'.1] at h; exact absurd h (by decide)
      · exact h'.2
    have hif : (if ((a / cs.length : Nat) : Int) < ((ownC cs.length k tz : Nat) : Int) then (([], 11) : List UInt8 × Nat) else readU u ep ((a / cs.length : Nat) : Int)) = if a < tz then ([], 11) else (readC14 allUp ep cs (a : Int) us).2 := by
      have := own_iff (tz := tz) g1 (a := a)
      rw [e1] at this
      by_cases hlt : a < tz
      · rw [if_pos hlt, if_pos (by have := this.2 hlt; omega)]
      · rw [if_neg hlt, if_neg (by intro hc; exact hlt (this.1 (by omega))), hb]
    rw [read_same hp (by omega) (by omega) (by rw [e]; exact u4) ?_, hd, hr, hif]
    rw [hd, hr]
    intro h
    by_cases hc : ((a / cs.length : Nat) : Int) < ((ownC cs.length k tz : Nat) : Int)
    · rw [if_pos hc] at h; exact absurd h (by decide)
    · rw [if_neg hc] at h ⊢
      rcases u1.read (at' := ((a / cs.length : Nat) : Int)) p1 hp.small (Int.natCast_nonneg _) hle2 with h' | h'
      · rw [h'.1] at h; exact absurd h (by decide)
      · exact h'.2
end
end Go.Proofs.YtiafamacjpgjoaaGreatDoor

/- Units that are as they must be stay so along chains whose units are apart. No walk stands here. -/
namespace Go.Proofs.YtiafamacjpgjoaaGreatDoor
open Go.RowKit Tide

section
variable {up : Nat → Bool} {us : Nat → UnitD} {ep q : Int} {cs : List (List Int)}
end
end Go.Proofs.YtiafamacjpgjoaaGreatDoor

/- New units, landed and the document's own. Not tied to package chain's code. -/
namespace Go.Proofs.YtiafamacjpgjoaaGreatDoor
open Go Go.RowKit Go.Shelf Tide

theorem refNew_below (W : World) (k : Nat) : Below W.heap.size W (refNew W k) ∧ (refNew W k).heap.size = W.heap.size + 2 := by
  have hb1 := (Below.refl W.heap.size W).alloc (Nat.le_refl _) (.cells #[.int .i64 (k : Int), .slice none 0 0] 145)
  exact ⟨hb1.alloc (by rw [World.size_alloc]; omega) _, by unfold refNew; rw [World.size_alloc, World.size_alloc]⟩
theorem refF_new (W : World) (k : Nat) : RefF (refNew W k) (fun j => j = W.heap.size ∨ j = W.heap.size + 1) (W.heap.size + 1) ⟨⟨k, []⟩, [], 0, 0, 0⟩ := by
  have hz := (refNew_below W k).2
  have h0 : (refNew W k).heap[W.heap.size + 1]? = some (.cells #[.pointer (some ⟨W.heap.size, 0, none⟩), .slice none 0 0, .slice none 0 0, .slice none 0 0, .int .i64 0, .int .i64 0, .int .i64 0] 119 (0, 0)) := by
    have := heap_alloc_new (W.alloc (.cells #[.int .i64 (k : Int), .slice none 0 0] 145)) (.cells #[.pointer (some ⟨W.heap.size, 0, none⟩), .slice none 0 0, .slice none 0 0, .slice none 0 0, .int .i64 0, .int .i64 0, .int .i64 0] 119)
    rw [World.size_alloc] at this
    exact this
  have hnil : ∀ (e : TypeId), (refNew W k).ownsRow 0 e 1 (.slice none 0 0) 0 [] := fun e => World.ownsRow_nil _ 0 e 1
  have hst : RefW (refNew W k) (fun b => b = W.heap.size) (fun _ => False) W.heap.size k [] (.slice none 0 0) := by
    refine { block := (Two.new W _ _ _).alloc _, segs := ⟨rfl, .inl ⟨rfl, rfl⟩⟩, rows := (fun g hg => by cases hg), fp := ⟨rfl, (fun k e => by cases e)⟩, lt := fun k hk => ?_, apart := List.Pairwise.nil }
    rw [hz]
    rcases hk with hk | hk
    · omega
    · exact hk.elim
  have hm : ∀ j, MineU (W.heap.size + 1) (.slice none 0 0) (.slice none 0 0) (.slice none 0 0) j → j = W.heap.size + 1 := fun j hj => by
    rcases hj with e | e | e | e
    · exact e
    · cases e
    · cases e
    · cases e
  have hr : RefU (refNew W k) (fun b => b = W.heap.size) (fun _ => False) (W.heap.size + 1) W.heap.size (.slice none 0 0) (.slice none 0 0) (.slice none 0 0) [] ⟨⟨k, []⟩, [], 0, 0, 0⟩ := {
    cells := h0
    store := ⟨[], _, rfl, hst⟩
    ats := hnil _
    pages := hnil _
    ins := hnil _
    bytes := ⟨rfl, fun i u b hu _ => by simp at hu⟩
    two := fun j e => by cases e
    mine := fun j hj => ⟨by have := hm j hj; omega, fun h => h, by have := hm j hj; omega⟩
    apart := fun _ _ h => h
    lt := fun j hj => by
      rcases hj with e | e
      · omega
      · exact e.elim }
  refine ⟨⟨fun j => j = W.heap.size ∨ j = W.heap.size + 1, fun _ => False, ⟨_, _, _, _, _, _, hr, fun j => ⟨fun e => e.imp id (hm j), fun e => e.imp id (fun e => .inl e)⟩⟩, fun j hj => ?_⟩, fun j hj => by omega⟩
  rcases hj with e | e
  · exact e
  · exact e.elim
section
variable {D : DvP} {a : Nat → Addr} {w W : World}
theorem un_dev (hD : DvSpec (three a) D) (hb : Below w.heap.size w W) (k : Nat) (hk : 1 ≤ k) (hk2 : k ≤ 5) :
    Calls Tryz.prog 41 #[.int .i64 ((64 * k : Nat) : Int)] W fun e w' => ∃ dev, e = .returned (.tuple #[.pointer (some ⟨dev, 0, none⟩), .nilIface]) ∧ UO D w (RestF W (fun _ => False)) (SameF W (fun _ => False)) dev (64 * k) 0 ⟨⟨k, []⟩, [], 0, 0, 0⟩ w' :=
  UO.new hD (stays_rest W _) (sameF_refl W _) (fun _ h => h.1) hb k hk hk2
theorem un_open (hD : DvSpec (three a) D) (hE : Errs w a) (hb : Below w.heap.size w W) {dev k : Nat} {W1 : World} (hk : 1 ≤ k) (hk2 : k ≤ 5) (h : UO D w (RestF W (fun _ => False)) (SameF W (fun _ => False)) dev (64 * k) 0 ⟨⟨k, []⟩, [], 0, 0, 0⟩ W1) :
    Calls Tryz.prog 42 #[.pointer (some ⟨dev, 0, none⟩)] W1 fun e w' => ∃ g F, e = .returned (.tuple #[.pointer (some ⟨g, 0, none⟩), .nilIface]) ∧ UnF D w w' F g (64 * k) 0 ⟨⟨k, []⟩, [], 0, 0, 0⟩ ∧ (∀ j, F j → W.heap.size ≤ j) ∧ Below W.heap.size W w' := by
  refine (h.open hD (stays_rest W _) hE (by omega) (by omega) (by omega)).mono ?_
  rintro e w' ⟨g, p, bm, rfl, hU⟩
  obtain ⟨F, h1, h2, h3⟩ := hU.unStep hb (fun _ h => h.elim)
  exact ⟨g, F, rfl, h1, fun j hj => (h2 j hj).elim (fun h => h.elim) id, ⟨h3.os, h3.tape, h3.output, h3.size, fun j hj => h3.block j hj (fun h => h)⟩⟩
end
end Go.Proofs.YtiafamacjpgjoaaGreatDoor

/- So many new units, landed and the document's own, in two rows. No walk stands here. -/
namespace Go.Proofs.YtiafamacjpgjoaaGreatDoor
open Go Go.RowKit Go.Shelf Tide

def newD : UnitD := ⟨⟨2, []⟩, [], 0, 0, 0⟩
def putF (F : Nat → Nat → Prop) (n : Nat) (G : Nat → Prop) : Nat → Nat → Prop := fun i => if i = n then G else F i
theorem putF_at (F : Nat → Nat → Prop) (n : Nat) (G : Nat → Prop) : putF F n G n = G := by simp [putF]
theorem putF_ne (F : Nat → Nat → Prop) {n i : Nat} (G : Nat → Prop) (h : i ≠ n) : putF F n G i = F i := by simp [putF, h]
structure NewU (D : DvP) (w W0 W : World) (gs qs : List Nat) (F H : Nat → Nat → Prop) (v u : Value) : Prop where
  len : qs.length = gs.length
  un : ∀ i (hi : i < gs.length), UnF D w W (F i) gs[i] 128 0 newD
  re : ∀ i (hi : i < qs.length), RefF W (H i) qs[i] newD
  apF : ∀ i j, i < gs.length → j < gs.length → i ≠ j → ∀ k, F i k → ¬ F j k
  apH : ∀ i j, i < gs.length → j < gs.length → i ≠ j → ∀ k, H i k → ¬ H j k
  apX : ∀ i j, i < gs.length → j < gs.length → ∀ k, F i k → ¬ H j k
  vown : OwnUn W W0.heap.size v gs
  uown : OwnRe W W0.heap.size u qs
  vap : ∀ k, v.ownBlock = some k → u.ownBlock ≠ some k ∧ ∀ i, i < gs.length → ¬ F i k ∧ ¬ H i k
  uap : ∀ k, u.ownBlock = some k → ∀ i, i < gs.length → ¬ F i k ∧ ¬ H i k
  lo : ∀ i, i < gs.length → ∀ k, F i k ∨ H i k → W0.heap.size ≤ k
  be : Below W0.heap.size W0 W
section
variable {D : DvP} {x : Nat → Addr} {w W0 W W2 W3 W5 : World} {gs qs : List Nat} {F H : Nat → Nat → Prop} {v u v3 u5 : Value} {g : Nat} {F' : Nat → Prop}
theorem own_low {T : TypeId} {b n m : Nat} {xs : List Value} (h : W.ownsRow b T m v n xs) : ∀ k, v.ownBlock = some k → b ≤ k ∧ k < W.heap.size := own_ge h
theorem NewU.step (hD : DvSpec x D) (hw : w.heap.size ≤ W0.heap.size) (h : NewU D w W0 W gs qs F H v u) (h1 : UnF D w W2 F' g 128 0 newD) (hF : ∀ j, F' j → W.heap.size ≤ j) (b1 : Below W.heap.size W W2)
    (o3 : OwnUn W3 W0.heap.size v3 (gs ++ [g])) (k3 : Kept (fun k => v.ownBlock = some k) W2 W3) (p3 : v3.ownBlock = v.ownBlock ∨ ∃ k, v3.ownBlock = some k ∧ W2.heap.size ≤ k)
    (o5 : OwnRe W5 W0.heap.size u5 (qs ++ [W3.heap.size + 1])) (k5 : Kept (fun k => u.ownBlock = some k) (refNew W3 2) W5) (p5 : u5.ownBlock = u.ownBlock ∨ ∃ k, u5.ownBlock = some k ∧ (refNew W3 2).heap.size ≤ k) :
    NewU D w W0 W5 (gs ++ [g]) (qs ++ [W3.heap.size + 1]) (putF F gs.length F') (putF H gs.length (fun j => j = W3.heap.size ∨ j = W3.heap.size + 1)) v3 u5 := by
  obtain ⟨b4, z4⟩ := refNew_below W3 2
  have zv := own_low h.vown
  have zu := own_low h.uown
  have zK : ∀ k, v.ownBlock = some k ∨ u.ownBlock = some k → W0.heap.size ≤ k ∧ k < W.heap.size := fun k e => e.elim (zv k) (zu k)
  have z1 := b1.size
  have z3 := k3.size
  have z5 := k5.size
  have zl := h.len
  have hFl : ∀ i, i < gs.length → ∀ k, F i k → k < W.heap.size := fun i hi k hk => ((h.un i hi).2 k hk).2
  have hHl : ∀ i, i < gs.length → ∀ k, H i k → k < W.heap.size := fun i hi k hk => (h.re i (by omega)).2 k hk
  have k35 : Kept (fun k => u.ownBlock = some k) W3 W5 := (Kept.of_below b4 (F := fun k => u.ownBlock = some k)).trans k5 (fun _ e => .inl e)
  have k25 : Kept (fun k => v.ownBlock = some k ∨ u.ownBlock = some k) W2 W5 := (k3.mono (fun _ _ e => .inl e)).trans (k35.mono (fun _ _ e => .inr e)) (fun _ e => .inl e)
  have k15 : Kept (fun k => v.ownBlock = some k ∨ u.ownBlock = some k) W W5 := (Kept.of_below b1 (F := fun k => v.ownBlock = some k ∨ u.ownBlock = some k)).trans k25 (fun _ e => .inl e)
  have hne : ∀ i, i < (gs ++ [g]).length → i ≠ gs.length → i < gs.length := fun i hi hn => by rw [List.length_append, List.length_singleton] at hi; omega
  refine { len := by rw [List.length_append, List.length_append, zl]; rfl, un := fun i hi => ?_, re := fun i hi => ?_, apF := fun i j hi hj hn k hk => ?_, apH := fun i j hi hj hn k hk => ?_, apX := fun i j hi hj k hk => ?_, vown := o3.kept k35 (fun k e e2 => ?_), uown := o5, vap := fun k e => ⟨fun e2 => ?_, fun i hi => ?_⟩, uap := fun k e i hi => ?_, lo := fun i hi k hk => ?_, be := h.be.trans ⟨k15.os, k15.tape, k15.output, k15.size, fun k hk => ?_⟩ }
  · by_cases hn : i = gs.length
    · subst hn
      rw [putF_at, List.getElem_append_right (Nat.le_refl _)]
      simp only [Nat.sub_self, List.getElem_cons_zero]
      exact h1.kept hD k25 (fun k e => ⟨fun hf => by have := hF k hf; have := (zK k e).2; omega, by have := (zK k e).1; omega⟩)
    · have hi' := hne i hi hn
      rw [putF_ne _ _ hn, List.getElem_append_left hi']
      exact (h.un i hi').kept hD k15 (fun k e => ⟨fun hf => by
        rcases e with e | e
        · exact ((h.vap k e).2 i hi').1 hf
        · exact (h.uap k e i hi').1 hf, by have := (zK k e).1; omega⟩)
  · by_cases hn : i = gs.length
    · subst hn
      rw [putF_at, List.getElem_append_right (by omega)]
      simp only [zl, Nat.sub_self, List.getElem_cons_zero]
      exact (refF_new W3 2).kept k5 (fun k hk e => by have := (zu k e).2; omega)
    · have hi' : i < gs.length := by rw [List.length_append, List.length_singleton] at hi; omega
      rw [putF_ne _ _ hn, List.getElem_append_left (by omega)]
      exact (h.re i (by omega)).kept k15 (fun k hf e => by
        rcases e with e | e
        · exact ((h.vap k e).2 i hi').2 hf
        · exact (h.uap k e i hi').2 hf)
  · by_cases hni : i = gs.length
    · subst hni
      have hj' := hne j hj (fun e => hn e.symm)
      rw [putF_at] at hk
      rw [putF_ne _ _ (fun e => hn e.symm)]
      intro e
      have := hF k hk
      have := hFl j hj' k e
      omega
    · have hi' := hne i hi hni
      rw [putF_ne _ _ hni] at hk
      by_cases hnj : j = gs.length
      · subst hnj
        rw [putF_at]
        intro e
        have := hF k e
        have := hFl i hi' k hk
        omega
      · rw [putF_ne _ _ hnj]
        exact h.apF i j hi' (hne j hj hnj) hn k hk
  · by_cases hni : i = gs.length
    · subst hni
      have hj' := hne j hj (fun e => hn e.symm)
      rw [putF_at] at hk
      rw [putF_ne _ _ (fun e => hn e.symm)]
      intro e
      have := hHl j hj' k e
      omega
    · have hi' := hne i hi hni
      rw [putF_ne _ _ hni] at hk
      by_cases hnj : j = gs.length
      · subst hnj
        rw [putF_at]
        intro e
        have := hHl i hi' k hk
        omega
      · rw [putF_ne _ _ hnj]
        exact h.apH i j hi' (hne j hj hnj) hn k hk
  · by_cases hni : i = gs.length
    · subst hni
      rw [putF_at] at hk
      have h2 := (h1.2 k hk).2
      have h3 := hF k hk
      by_cases hnj : j = gs.length
      · subst hnj
        rw [putF_at]
        intro e
        omega
      · rw [putF_ne _ _ hnj]
        intro e
        have := hHl j (hne j hj hnj) k e
        omega
    · have hi' := hne i hi hni
      rw [putF_ne _ _ hni] at hk
      have h2 := hFl i hi' k hk
      by_cases hnj : j = gs.length
      · subst hnj
        rw [putF_at]
        intro e
        omega
      · rw [putF_ne _ _ hnj]
        exact h.apX i j hi' (hne j hj hnj) k hk
  · rcases p3 with p | ⟨k', p, hk'⟩
    · rw [p] at e
      exact (h.vap k e).1 e2
    · rw [p] at e
      injection e with e
      have := (zu k e2).2
      omega
  · have z9 := (own_low o3 k e).2
    rcases p3 with p | ⟨k', p, hk'⟩
    · rw [p] at e
      rcases p5 with p | ⟨k5', p, hk5⟩
      · rw [p] at e2
        exact (h.vap k e).1 e2
      · rw [p] at e2
        injection e2 with e2
        have := (zv k e).2
        omega
    · rw [p] at e
      injection e with e
      rcases p5 with p | ⟨k5', p, hk5⟩
      · rw [p] at e2
        have := (zu k e2).2
        omega
      · rw [p] at e2
        injection e2 with e2
        omega
  · have zk := own_low o3 k e
    by_cases hn : i = gs.length
    · subst hn
      rw [putF_at, putF_at]
      rcases p3 with p | ⟨k', p, hk'⟩
      · rw [p] at e
        have := (zv k e).2
        exact ⟨fun hf => by have := hF k hf; omega, fun hf => by omega⟩
      · rw [p] at e
        injection e with e
        exact ⟨fun hf => by have := (h1.2 k hf).2; omega, fun hf => by omega⟩
    · have hi' := hne i hi hn
      rw [putF_ne _ _ hn, putF_ne _ _ hn]
      rcases p3 with p | ⟨k', p, hk'⟩
      · rw [p] at e
        exact (h.vap k e).2 i hi'
      · rw [p] at e
        injection e with e
        exact ⟨fun hf => by have := hFl i hi' k hf; omega, fun hf => by have := hHl i hi' k hf; omega⟩
  · by_cases hn : i = gs.length
    · subst hn
      rw [putF_at, putF_at]
      rcases p5 with p | ⟨k', p, hk'⟩
      · rw [p] at e
        have := (zu k e).2
        exact ⟨fun hf => by have := hF k hf; omega, fun hf => by omega⟩
      · rw [p] at e
        injection e with e
        exact ⟨fun hf => by have := (h1.2 k hf).2; omega, fun hf => by omega⟩
    · have hi' := hne i hi hn
      rw [putF_ne _ _ hn, putF_ne _ _ hn]
      rcases p5 with p | ⟨k', p, hk'⟩
      · rw [p] at e
        exact h.uap k e i hi'
      · rw [p] at e
        injection e with e
        exact ⟨fun hf => by have := hFl i hi' k hf; omega, fun hf => by have := hHl i hi' k hf; omega⟩
  · have zb := h.be.size
    by_cases hn : i = gs.length
    · subst hn
      rw [putF_at, putF_at] at hk
      rcases hk with hk | hk
      · have := hF k hk; omega
      · omega
    · rw [putF_ne _ _ hn, putF_ne _ _ hn] at hk
      exact h.lo i (hne i hi hn) k hk
  · exact k15.block k (by have := h.be.size; omega) (fun e => by have := (zK k e).1; omega)
end
end Go.Proofs.YtiafamacjpgjoaaGreatDoor

/- The law's units: so many, landed and the document's own. -/
namespace Go.Proofs.YtiafamacjpgjoaaGreatDoor
open Go Go.RowKit Go.Shelf Tide

theorem NewU.init {D : DvP} {w : World} (W : World) : NewU D w W ((W.alloc (.cells #[] 70)).alloc (.cells #[] 72)) [] [] (fun _ _ => False) (fun _ _ => False) (.slice (some ⟨W.heap.size, 0, none⟩) 0 0) (.slice (some ⟨W.heap.size + 1, 0, none⟩) 0 0) where
  len := rfl
  un := fun i hi => absurd hi (Nat.not_lt_zero i)
  re := fun i hi => absurd hi (Nat.not_lt_zero i)
  apF := fun i _ hi => absurd hi (Nat.not_lt_zero i)
  apH := fun i _ hi => absurd hi (Nat.not_lt_zero i)
  apX := fun i _ hi => absurd hi (Nat.not_lt_zero i)
  vown := (OwnUn.new W W.heap.size (Nat.le_refl _) W.heap.size rfl).below ((Below.refl _ _).alloc (Nat.le_refl _) _)
  uown := OwnRe.new (W.alloc (.cells #[] 70)) W.heap.size (by rw [World.size_alloc]; omega) (W.heap.size + 1) (by rw [World.size_alloc])
  vap := fun k e => ⟨fun e2 => by injection e with e; injection e2 with e2; have e : W.heap.size = k := e; have e2 : W.heap.size + 1 = k := e2; omega, fun i hi => absurd hi (Nat.not_lt_zero i)⟩
  uap := fun _ _ i hi => absurd hi (Nat.not_lt_zero i)
  lo := fun i hi => absurd hi (Nat.not_lt_zero i)
  be := ((Below.refl W.heap.size W).alloc (Nat.le_refl _) _).alloc (by rw [World.size_alloc]; omega) _
set_option maxRecDepth 100000 in
set_option maxHeartbeats 2000000 in
theorem units14_any {D : DvP} {a : Nat → Addr} {w W : World} (hD : DvSpec (three a) D) (hE : Errs w a) (hb : Below w.heap.size w W) (n : Nat) (hn : n ≤ 6) :
    Calls Tryz.prog 15 #[.int .i64 (n : Int)] W fun e w' => ∃ v u gs qs F H, e = .returned (.tuple #[v, u]) ∧ gs.length = n ∧ NewU D w W w' gs qs F H v u := by
  have HD := Lib.hid hD
  have HE := Lib.hid hE
  have HB := Lib.hid hb
  have i0 : (n : Int) ≤ 6 := by omega
  have H0 := Lib.hid (NewU.init (D := D) (w := w) W)
  clear hD hE hb
  go_enter Tryz.func15, Tryz.ntmps15
  go_wp2_with fail
  go_loopw [4, 5, 12] (fun v u i wr => ∃ (gs qs : List Nat) (F H : Nat → Nat → Prop), i = .int .i64 (gs.length : Nat) ∧ gs.length ≤ n ∧ Hid (NewU D w W wr gs qs F H v u)) (fun _ _ i _ => n - (intOf i).toNat)
  case atStart => exact ⟨[], [], _, _, rfl, Nat.zero_le _, H0⟩
  case round =>
    obtain ⟨gs, qs, F, H, rfl, hk, hN⟩ := hrel
    obtain ⟨k, hkk⟩ : ∃ k, gs.length = k := ⟨_, rfl⟩
    have HK := Lib.hid hkk
    rw [hkk] at hk ⊢
    have HL := Lib.hid (show gs.length ≤ 1000000 by omega)
    have HLq := Lib.hid (show qs.length ≤ 1000000 by rw [hN.out.len]; omega)
    clear hkk
    by_cases hlt : k < n
    · have i1 : (k : Int) < (n : Int) := by omega
      have HBr := Lib.hid (HB.out.trans (hN.out.be.mono HB.out.size))
      have CN := Lib.hid (show Calls Tryz.prog 41 #[.int .i64 128] wr fun e w' => ∃ dev, e = .returned (.tuple #[.pointer (some ⟨dev, 0, none⟩), .nilIface]) ∧ UO D w (RestF wr (fun _ => False)) (SameF wr (fun _ => False)) dev (64 * 2) 0 ⟨⟨2, []⟩, [], 0, 0, 0⟩ w' from un_dev HD.out HBr.out 2 (by omega) (by omega))
      go_wp2_with fail
      refine CN.out.mono ?_
      rintro en w2 ⟨dev, rfl, hd⟩
      have CO := Lib.hid (un_open HD.out HE.out HBr.out (by omega) (by omega) hd)
      clear hd CN
      go_wp2_with fail
      refine CO.out.mono ?_
      rintro en w3 ⟨g, F', rfl, h1, hF, b1⟩
      have HU := Lib.hid h1
      have HF := Lib.hid hF
      have HB1 := Lib.hid b1
      have O3 := Lib.hid (hN.out.vown.below b1)
      have Z3 := Lib.hid (Nat.le_trans hN.out.be.size b1.size)
      clear h1 hF b1 CO
      go_wp2_with (at_builtin; refine wpList_pushUn rfl (.tmp 31) (.tmp 33) rfl g rfl rfl O3.out HL.out Z3.out ?_)
      intro v4 w4 g1 g2 g3
      have HV4 := Lib.hid g1
      have HK4 := Lib.hid g2
      have HP4 := Lib.hid g3
      have CW := Lib.hid (unew_any 2 w4)
      clear g1 g2 g3
      go_wp2_with fail
      refine CW.out.mono ?_
      rintro en w5 ⟨rfl, rfl⟩
      clear CW
      have OU := Lib.hid (show OwnRe (refNew w4 2) W.heap.size u5 qs from ((hN.out.uown.below HB1.out).kept HK4.out (fun k e e2 => (hN.out.vap k e2).1 e)).below (refNew_below w4 2).1)
      have Z5 := Lib.hid (Nat.le_trans Z3.out (Nat.le_trans HK4.out.size (refNew_below w4 2).1.size))
      go_wp2_with (at_builtin; refine wpList_pushRe rfl (.tmp 35) (.tmp 37) rfl (w4.heap.size + 1) rfl rfl OU.out HLq.out Z5.out ?_)
      intro v6 w6 g1 g2 g3
      have HNew := Lib.hid (hN.out.step HD.out HB.out.size HU.out HF.out HB1.out HV4.out HK4.out HP4.out g1 g2 g3)
      clear g1 g2 g3
      go_wp2_with fail
      go_roundw
      case rel => exact ⟨gs ++ [g], _, _, _, by rw [List.length_append, List.length_singleton, HK.out] <;> go_num, by rw [List.length_append, List.length_singleton, HK.out]; omega, HNew⟩
      case measure => simp [intOf]; omega
    · have hke : k = n := by omega
      have i1 : (n : Int) ≤ (k : Int) := by omega
      go_wp2_with fail
      go_ret2
      exact ⟨_, _, gs, qs, F, H, rfl, by rw [HK.out]; exact hke, hN.out⟩
end Go.Proofs.YtiafamacjpgjoaaGreatDoor
