/- The laws of a unit: does a unit tell what the document's own holds? -/
import Derived.Test.YtbhohlefgkcdmaaGreatDoorGUlR
import Derived.Test.YtbhohlefgkcdmaaGreatDoorGUlA
import Derived.Deep.DeepCutAuto
import Derived.Deep.CutBlock
import Derived.Deep.CutRange
import Derived.Deep.RegionHeld3
namespace Go.Proofs.YtbhohlefgkcdmaaGreatDoor
open Go Go.RowKit Go.Shelf Tide

section
variable {D : DvP} {a : Nat → Addr} {w W : World} {FX0 : Nat → Prop} {X0 : World → Prop} {g q dev n N : Nat} {u : UnitD}
set_option maxRecDepth 100000 in
set_option maxHeartbeats 4000000 in
theorem usame_any (hD : DvSpec (three a) D) (hX : Stays FX0 X0) (hE : Errs w a) (hn : n ≤ 1000) (hNl : N ≤ 90000) (h : UR D w FX0 X0 dev n N u u g q W) :
    Calls Tryz.prog 9 #[.pointer (some ⟨g, 0, none⟩), .pointer (some ⟨q, 0, none⟩)] W fun e w' => e = .returned (.bool true) ∧ UR D w FX0 X0 dev n N u u g q w' := by
  have hok := h.okR hn hNl
  have H := Lib.hid h
  obtain ⟨p0, b0, c0, p, bm, FX, X, hXs, hU, hP, hB, hT⟩ := h.pin hD hX
  have hcp := hP _ hU.else'
  have HB := Lib.hid hB
  have HOk := Lib.hid hok
  obtain ⟨E, hE1⟩ : ∃ E, u.epoch = E := ⟨_, rfl⟩
  obtain ⟨T, hT1⟩ : ∃ T, u.trimmed = T := ⟨_, rfl⟩
  obtain ⟨P, hP1⟩ : ∃ P, u.store.places = P := ⟨_, rfl⟩
  obtain ⟨L, hL1⟩ : ∃ L, u.store.segs.length = L := ⟨_, rfl⟩
  obtain ⟨M, hM1⟩ : ∃ M, max u.top u.trimmed = M := ⟨_, rfl⟩
  obtain ⟨f, hf1⟩ : ∃ f : Int, (P : Int) - (L : Int) = f := ⟨_, rfl⟩
  have hPl : P ≤ 1000 := by rw [← hP1]; exact hok.small.places
  have hLl : L ≤ 999 := by rw [← hL1]; exact hok.small.segs
  have HS := Lib.hid (fun (Y : World) (hY : UL D w FX X g p bm dev n N u Y) => show Y.cell? ⟨q, 0, none⟩ = some (.pointer (some ⟨p0, 0, none⟩)) ∧ Y.cell? ⟨q, 4, none⟩ = some (.int .i64 (T : Int)) ∧ Y.cell? ⟨q, 5, none⟩ = some (.int .i64 (E : Int)) ∧ Y.cell? ⟨p0, 0, none⟩ = some (.int .i64 (P : Int)) ∧ Y.cell? ⟨p0, 1, none⟩ = some (.slice b0 L c0) from by
    have := hP Y hY.else'
    unfold CellsP at this
    rw [hE1, hT1, hP1, hL1] at this
    exact this)
  have CE := Lib.hid (fun (Y : World) (hY : UL D w FX X g p bm dev n N u Y) => show Calls Tryz.prog 23 #[.pointer (some ⟨g, 0, none⟩)] Y fun e w' => e = .returned (.int .i64 (E : Int)) ∧ Y = w' from by rw [← hE1]; exact hY.epoch)
  have CT := Lib.hid (fun (Y : World) (hY : UL D w FX X g p bm dev n N u Y) => show Calls Tryz.prog 29 #[.pointer (some ⟨g, 0, none⟩)] Y fun e w' => e = .returned (.int .i64 (T : Int)) ∧ Y = w' from by rw [← hT1]; exact hY.trimmed)
  have CA := Lib.hid (fun (Y : World) (hY : UL D w FX X g p bm dev n N u Y) => show Calls Tryz.prog 24 #[.pointer (some ⟨g, 0, none⟩)] Y fun e w' => e = .returned (.int .i64 (M : Int)) ∧ UL D w FX X g p bm dev n N u w' from by
    rw [← hM1]
    exact (hY.tail hD hXs hNl).mono (fun e w' h => ⟨h.1, h.2.2⟩))
  have CR := Lib.hid (fun (Y : World) (hY : UL D w FX X g p bm dev n N u Y) => show Calls Tryz.prog 30 #[.pointer (some ⟨q, 0, none⟩)] Y fun e w' => e = .returned (.int .i64 (M : Int)) ∧ UL D w FX X g p bm dev n N u w' from by
    rw [← hM1]
    exact (hT Y hY.else').mono (fun e w' h => ⟨h.1, hY.below hD hXs h.2⟩))
  have CF := Lib.hid (fun (Y : World) (hY : UL D w FX X g p bm dev n N u Y) => show Calls Tryz.prog 31 #[.pointer (some ⟨g, 0, none⟩)] Y fun e w' => e = .returned (.int .i64 f) ∧ UL D w FX X g p bm dev n N u w' from by
    have := hY.free hD hXs hn
    rw [hP1, hL1, hf1] at this
    exact this)
  have wf1 := small_w f (by omega) (by omega)
  have wf2 := small_v f (by omega) (by omega)
  have U0 := Lib.hid (hU.below hD hXs ((Below.refl W.heap.size W).drew))
  have D0 := Lib.hid (HS.out _ U0.out)
  have CRd := Lib.hid (fun (Y : World) (hY : UL D w FX X g p bm dev n N u Y) (k : Nat) => show Calls Tryz.prog 25 #[.pointer (some ⟨g, 0, none⟩), .int .i64 (E : Int), .int .i64 (k : Int)] Y fun e w' => ∃ v x, e = .returned (.tuple #[v, x]) ∧ Bytes w' w'.heap.size v (readU u E k).1 ∧ IsErr a x (readU u E k).2 ∧ UL D w FX X g p bm dev n N u w' from
    (hY.read hD hXs hE E k).mono (fun e w' ⟨v, x, h1, h2, h3, _, h5⟩ => ⟨v, x, h1, h2, h3, h5⟩))
  have CRr := Lib.hid (fun (Y : World) (hY : UL D w FX X g p bm dev n N u Y) (k : Nat) => show Calls Tryz.prog 28 #[.pointer (some ⟨q, 0, none⟩), .int .i64 (E : Int), .int .i64 (k : Int)] Y fun e w' => ∃ v, e = .returned (.tuple #[v, .int .i64 ((readU u E k).2 : Nat)]) ∧ Bytes w' w'.heap.size v (readU u E k).1 ∧ Below Y.heap.size Y w' ∧ UL D w FX X g p bm dev n N u w' from
    ((hB Y hY).rread hD hX hok E k).mono (fun e w' ⟨v, h1, h2, h3, _⟩ => ⟨v, h1, h2, h3, hY.below hD hXs h3⟩))
  have CH := Lib.hid (fun (Y : World) (hY : UL D w FX X g p bm dev n N u Y) (k : Nat) (hk : k ≤ 100000) => show Calls Tryz.prog 32 #[.pointer (some ⟨g, 0, none⟩), .int .i64 (k : Int)] Y fun e w' => e = .returned (.bool (hasD u k)) ∧ UL D w FX X g p bm dev n N u w' from
    (hY.has hD hXs k hk).mono (fun e w' h => ⟨h.1, h.2.2⟩))
  have CHr := Lib.hid (fun (Y : World) (hY : UL D w FX X g p bm dev n N u Y) (k : Nat) => show Calls Tryz.prog 33 #[.pointer (some ⟨q, 0, none⟩), .int .i64 (k : Int)] Y fun e w' => e = .returned (.bool (hasD u k)) ∧ Y = w' from (hB Y hY).rhas k)
  have HUb := Lib.hid (fun (Y Y' : World) (hY : UL D w FX X g p bm dev n N u Y) (hb : Below Y.heap.size Y Y') => show UL D w FX X g p bm dev n N u Y' from hY.below hD hXs hb)
  have HNl := Lib.hid hNl
  have HNn := Lib.hid hn
  have HD := Lib.hid hD
  have HX := Lib.hid hX
  have HE := Lib.hid hE
  clear h hok hU hP hB hT hcp hXs hE1 hT1 hP1 hL1 hM1 hPl hLl hNl hn hD hX hE
  go_enter Tryz.func9, Tryz.ntmps9
  go_wp2_with fail
  go_region_held3 (fun Y => Y.cell? ⟨q, 0, none⟩ = some (.pointer (some ⟨p0, 0, none⟩)) ∧ Y.cell? ⟨q, 4, none⟩ = some (.int .i64 (T : Int)) ∧ Y.cell? ⟨q, 5, none⟩ = some (.int .i64 (E : Int)) ∧ Y.cell? ⟨p0, 0, none⟩ = some (.int .i64 (P : Int)) ∧ Y.cell? ⟨p0, 1, none⟩ = some (.slice b0 L c0))
    (first | exact D0.out | exact D1.out | exact D2.out | exact D3.out | assumption)
    (first
      | (go_at_call 23; (with_reducible refine (CE.out _ U0.out).mono ?_); rintro en w1 ⟨rfl, rfl⟩)
      | (go_at_call 29; (with_reducible refine (CT.out _ U0.out).mono ?_); rintro en w1 ⟨rfl, rfl⟩)
      | (go_at_call 24; (with_reducible refine (CA.out _ U0.out).mono ?_); rintro en w1 ⟨rfl, hU1⟩; have U1 := Lib.hid hU1; have D1 := Lib.hid (HS.out _ hU1); clear hU1)
      | (go_at_call 30; (with_reducible refine (CR.out _ U1.out).mono ?_); rintro en w2 ⟨rfl, hU2⟩; have U2 := Lib.hid hU2; have D2 := Lib.hid (HS.out _ hU2); clear hU2)
      | (go_at_call 31; (with_reducible refine (CF.out _ U2.out).mono ?_); rintro en w3 ⟨rfl, hU3⟩; have U3 := Lib.hid hU3; have D3 := Lib.hid (HS.out _ hU3); clear hU3))
  clear D0 D1 D2 D3 U0 U1 U2 CE CT CA CR CF wf1 wf2
  clear hf1
  go_wp2_with fail
  go_loopw [54] (fun i wr => ∃ k : Nat, i = .int .i64 k ∧ k ≤ 14 ∧ Hid (UL D w FX X g p bm dev n N u wr)) (fun i _ => 14 - (intOf i).toNat)
  case atStart => exact ⟨0, rfl, by omega, U3⟩
  case round =>
    obtain ⟨k, rfl, hk, hU⟩ := hrel
    by_cases hlt : k < 14
    rotate_left
    · have q2 : decide ((k : Int) < 14) = false := decide_eq_false (by omega)
      have q2' : decide (k < 14) = false := decide_eq_false hlt
      clear hlt
      go_wp2_with fail
      go_ret
      exact ⟨rfl, HB.out _ hU.out⟩
    have q2 : decide ((k : Int) < 14) = true := decide_eq_true (by omega)
    have q2' : decide (k < 14) = true := decide_eq_true hlt
    obtain ⟨d0, d4, d5, e0, e1⟩ := HS.out _ hU.out
    have C1 := Lib.hid (CRd.out _ hU.out k)
    have C2 := Lib.hid (fun Y hY => CRr.out Y hY k)
    have C3 := Lib.hid (fun Y hY => CH.out Y hY k (by omega))
    have C4 := Lib.hid (fun Y hY => CHr.out Y hY k)
    obtain ⟨l, hl⟩ : ∃ l, (readU u E k).1 = l := ⟨_, rfl⟩
    obtain ⟨r, hr⟩ : ∃ r, (readU u E k).2 = r := ⟨_, rfl⟩
    obtain ⟨hh, hhh⟩ : ∃ hh, hasD u k = hh := ⟨_, rfl⟩
    rw [hl, hr] at C1 C2
    rw [hhh] at C3 C4
    clear hl hr hhh
    go_wp2_with fail
    refine C1.out.mono ?_
    rintro en w5 ⟨v, x, rfl, hv, hx, hU5⟩
    obtain ⟨A1, c1, rfl, _, _, _⟩ := hv.form
    have HV := Lib.hid hv
    have U5 := Lib.hid hU5
    have HIx := Lib.hid hx
    clear d0 d4 d5 e0 e1 hv hU5 hx C1
    obtain ⟨d0, d4, d5, e0, e1⟩ := HS.out _ U5.out
    go_wp2_with fail
    refine (C2.out _ U5.out).mono ?_
    rintro en w6 ⟨v, rfl, hv, hb6, hU6⟩
    obtain ⟨A2, c2, rfl, _, _, _⟩ := hv.form
    have cv1 := conv_bytes (HV.out.below hb6)
    have cv2 := conv_bytes hv
    have U6 := Lib.hid hU6
    have CN := Lib.hid (num_any a x r w6 (HE.out.below hU6.since) HIx.out)
    clear d0 d4 d5 e0 e1 hv hU6 hb6 C2
    go_wp2_with fail
    refine CN.out.mono ?_
    rintro en w7 ⟨rfl, hb7⟩
    have U7 := Lib.hid (HUb.out _ _ U6.out hb7)
    clear hb7 CN cv1 cv2
    go_wp2_with fail
    refine (C3.out _ U7.out).mono ?_
    rintro en w8 ⟨rfl, hU8⟩
    have U8 := Lib.hid hU8
    clear hU8
    go_wp2_with fail
    refine (C4.out _ U8.out).mono ?_
    rintro en w9 ⟨rfl, rfl⟩
    go_wp2_with fail
    go_roundw
    case rel => exact ⟨k + 1, by go_num, by omega, U8⟩
    case measure => simp [intOf]; omega
end
end Go.Proofs.YtbhohlefgkcdmaaGreatDoor

/- The laws of a unit: an act is answered as told. -/
namespace Go.Proofs.YtbhohlefgkcdmaaGreatDoor
open Go Go.RowKit Go.Shelf Tide

/-- The document's own unit behind an act; a device opened anew for every other kind. -/
def actU (u : UnitD) (x : ActU) : UnitD :=
  if x.kind = 0 then (writeD u x.epoch x.adr x.page).1 else if x.kind = 2 then (trimD u x.epoch x.adr).1 else if x.kind = 3 then (sealD u x.epoch).1 else u
section
variable {D : DvP} {a : Nat → Addr} {w W : World} {g q dev n N : Nat} {u : UnitD}
set_option maxRecDepth 100000 in
set_option maxHeartbeats 4000000 in
theorem udo_any (hD : DvSpec (three a) D) (hE : Errs w a) (hn : 64 ≤ n ∧ n ≤ 1000) (hNl : N ≤ 80000) (h : UR D w (fun _ => False) (fun _ => True) dev n N u u g q W) (x : ActU) :
    Calls Tryz.prog 8 #[.pointer (some ⟨dev, 0, none⟩), .pointer (some ⟨g, 0, none⟩), .pointer (some ⟨q, 0, none⟩), .agg x.cells] W fun e w' => ∃ g', e = .returned (.tuple #[.pointer (some ⟨g', 0, none⟩), .bool true]) ∧ UR D w (fun _ => False) (fun _ => True) dev n (N + 1) (actU u x) (actU u x) g' q w' := by
  have hok := h.okR hn.2 (by omega)
  have h1 := h.box hD stays_none (.cells x.cells 30)
  have hXb := stays_none.box W.heap.size (.cells x.cells 30)
  have HOk := Lib.hid hok
  have HD := Lib.hid hD
  have HE := Lib.hid hE
  have HNn := Lib.hid hn
  have HNl := Lib.hid hNl
  generalize hw6 : W.alloc (.cells x.cells 30) = w6 at *
  generalize hbb : W.heap.size = bb at *
  have HX := Lib.hid hXb
  have H1 := Lib.hid h1
  have HK := Lib.hid (fun (Y : World) (hY : True ∧ Y.heap[bb]? = some (.cells x.cells 30 (0, 0))) => show Y.cell? ⟨bb, 0, none⟩ = some (.int .i64 x.kind) ∧ Y.cell? ⟨bb, 1, none⟩ = some (.int .i64 x.epoch) ∧ Y.cell? ⟨bb, 2, none⟩ = some (.int .i64 x.adr) ∧ Y.cell? ⟨bb, 3, none⟩ = some (.int .i64 x.len) ∧ Y.cell? ⟨bb, 4, none⟩ = some (.int .u8 (x.byte.toNat : Int)) from
    ⟨by rw [cell_of_row _ _ 0 _ _ _ hY.2]; rfl, by rw [cell_of_row _ _ 1 _ _ _ hY.2]; rfl, by rw [cell_of_row _ _ 2 _ _ _ hY.2]; rfl, by rw [cell_of_row _ _ 3 _ _ _ hY.2]; rfl, by rw [cell_of_row _ _ 4 _ _ _ hY.2]; rfl⟩)
  have HLess := Lib.hid (fun (v : UnitD) (g' : Nat) (Y : World) (hY : UR D w (fun k => False ∨ k = bb) (fun Y => True ∧ Y.heap[bb]? = some (.cells x.cells 30 (0, 0))) dev n (N + 1) v v g' q Y) => show UR D w (fun _ => False) (fun _ => True) dev n (N + 1) v v g' q Y from hY.less (fun _ h => h.elim) (fun _ _ => trivial))
  obtain ⟨d0, d1, d2, d3, d4⟩ := HK.out _ h1.else0
  clear h hok h1 hXb hD hE hn hNl
  by_cases hk0 : x.kind = 0
  · have q3 : (x.kind == 0) = true := beq_iff_eq.2 hk0
    have HR := Lib.hid (show actU u x = (writeD u x.epoch x.adr x.page).1 from by unfold actU; rw [if_pos hk0])
    have CP := Lib.hid (fun Y => page_any x Y)
    have HU6 := Lib.hid (fun (Y : World) (hb : Below w6.heap.size w6 Y) => H1.out.below HD.out HX.out hb)
    have D6 := Lib.hid (HK.out w6.drew (HU6.out _ ((Below.refl _ _).drew)).else0)
    obtain ⟨r, hr⟩ : ∃ r, (writeD u x.epoch x.adr x.page).2 = r := ⟨_, rfl⟩
    obtain ⟨v, hv⟩ : ∃ v, (writeD u x.epoch x.adr x.page).1 = v := ⟨_, rfl⟩
    have CW := Lib.hid (fun (Y : World) (vb : Value) (hY : UR D w (fun k => False ∨ k = bb) (fun Y => True ∧ Y.heap[bb]? = some (.cells x.cells 30 (0, 0))) dev n N u u g q Y) (hv : Bytes Y Y.heap.size vb x.page) => hY.write HD.out HX.out HE.out HNn.out.2 (by have := HNl.out; omega) x.epoch x.adr vb x.page hv)
    have CRw := Lib.hid (fun (Y Y' : World) (vb : Value) (hY : UR D w (fun k => False ∨ k = bb) (fun Y => True ∧ Y.heap[bb]? = some (.cells x.cells 30 (0, 0))) dev n (N + 1) (writeD u x.epoch x.adr x.page).1 u g q Y) (hb : Below Y.heap.size Y Y') (hv : Y'.ownsRow Y.heap.size 5 1 vb x.page.length (u8s x.page)) => hY.rwrite HD.out HX.out HOk.out hb x.epoch x.adr vb x.page hv)
    rw [hr, hv] at CW
    rw [hr, hv] at CRw
    have HPl := Lib.hid (x.page_len)
    have T1 := Lib.hid trivial
    have HRv := Lib.hid hv
    clear hk0 hr hv H1
    go_enter Tryz.func8, Tryz.ntmps8
    go_wp2_with fail
    clear hw6 hbb
    go_region_held3 (fun Y => Y.cell? ⟨bb, 0, none⟩ = some (.int .i64 x.kind) ∧ Y.cell? ⟨bb, 1, none⟩ = some (.int .i64 x.epoch) ∧ Y.cell? ⟨bb, 2, none⟩ = some (.int .i64 x.adr) ∧ Y.cell? ⟨bb, 3, none⟩ = some (.int .i64 x.len) ∧ Y.cell? ⟨bb, 4, none⟩ = some (.int .u8 (x.byte.toNat : Int)))
      (first | exact D6.out | exact D7.out | exact D8.out | exact D9.out | exact D10.out | exact D11.out | assumption)
      (first
        | (go_at_call 14; clear T1; (with_reducible refine (CP.out _).mono ?_); rintro en w7 ⟨vp, rfl, hvp, hb7⟩; have U7 := Lib.hid (HU6.out _ (((Below.refl w6.heap.size w6).drew).trans (hb7.mono (Nat.le_refl _)))); have D7 := Lib.hid (HK.out _ U7.out.else0); have V7 := Lib.hid (Bytes.of_own hvp); clear hvp hb7)
        | (go_at_call 13; (with_reducible refine (CW.out _ _ U7.out V7.out).mono ?_); rintro en w8 ⟨y, rfl, hy, hU8⟩; have D8 := Lib.hid (HK.out _ hU8.else0); have U8 := Lib.hid hU8; have CN := Lib.hid (num_any a y r w8 (HE.out.below hU8.since) hy); clear hy hU8)
        | (go_at_call 22; (with_reducible refine CN.out.mono ?_); rintro en w9 ⟨rfl, hb9⟩; have U9 := Lib.hid (U8.out.below HD.out HX.out hb9); have D9 := Lib.hid (HK.out _ U9.out.else0); clear hb9)
        | (go_at_call 14; (with_reducible refine (CP.out _).mono ?_); rintro en w10 ⟨vq, rfl, hvq, hb10⟩; have HB10 := Lib.hid hb10; have D10 := Lib.hid (HK.out _ (U9.out.below HD.out HX.out hb10).else0); have V10 := Lib.hid (show World.ownsRow _ _ _ _ _ x.page.length _ from HPl.out ▸ hvq); clear hvq hb10)
        | (go_at_call 15; (with_reducible refine (CRw.out _ _ _ U9.out HB10.out V10.out).mono ?_); rintro en w11 ⟨rfl, hU11⟩; have U11 := Lib.hid hU11; have D11 := Lib.hid (HK.out _ hU11.else0); clear hU11))
    clear D6 D7 D8 D9 D10 CP CW CRw CN HU6 U7 U8 U9 V7 V10 HB10 d0 d1 d2 d3 d4
    go_wp2_with fail
    go_ret2
    rw [HR.out, HRv.out]
    exact ⟨g, by simp, HLess.out _ _ _ U11.out⟩
  have q0 : (x.kind == 0) = false := beq_eq_false_iff_ne.2 hk0
  by_cases hk1 : x.kind = 1
  · have q1 : (x.kind == 1) = true := beq_iff_eq.2 hk1
    have HR := Lib.hid (show actU u x = u from by unfold actU; rw [if_neg (by omega), if_neg (by omega), if_neg (by omega)])
    obtain ⟨r, hr⟩ : ∃ r, (readU u x.epoch x.adr).2 = r := ⟨_, rfl⟩
    obtain ⟨l, hl⟩ : ∃ l, (readU u x.epoch x.adr).1 = l := ⟨_, rfl⟩
    have C1 := Lib.hid (H1.out.read HD.out HX.out HE.out x.epoch x.adr)
    have C2 := Lib.hid (fun (Y : World) (hY : UR D w (fun k => False ∨ k = bb) (fun Y => True ∧ Y.heap[bb]? = some (.cells x.cells 30 (0, 0))) dev n N u u g q Y) => hY.rread HD.out HX.out HOk.out x.epoch x.adr)
    rw [hr, hl] at C1 C2
    clear hk0 hk1 hr hl H1
    go_enter Tryz.func8, Tryz.ntmps8
    go_wp2_with fail
    refine C1.out.mono ?_
    rintro en w8 ⟨vv, y, rfl, hv, hy, hb8, hU8⟩
    obtain ⟨A1, c1, rfl, _, _, _⟩ := hv.form
    have U8 := Lib.hid hU8
    have HV := Lib.hid hv
    have HY := Lib.hid hy
    clear hw6 hbb d0 d1 d2 d3 d4 hv hy hb8 hU8 C1
    obtain ⟨d0, d1, d2, d3, d4⟩ := HK.out _ U8.out.else0
    go_wp2_with fail
    refine (C2.out _ U8.out).mono ?_
    rintro en w9 ⟨vv, rfl, hv, hb9, hU9⟩
    obtain ⟨A2, c2, rfl, _, _, _⟩ := hv.form
    have cv1 := conv_bytes (HV.out.below hb9)
    have cv2 := conv_bytes hv
    have U9 := Lib.hid hU9
    have CN := Lib.hid (num_any a y r w9 (HE.out.below hU9.since) HY.out)
    clear d0 d1 d2 d3 d4 hv hb9 hU9 C2
    go_wp2_with fail
    refine CN.out.mono ?_
    rintro en w10 ⟨rfl, hb10⟩
    have U10 := Lib.hid ((U9.out.below HD.out HX.out hb10).mono (Nat.le_succ N))
    clear hb10 CN cv1 cv2
    go_wp2_with fail
    go_ret2
    rw [HR.out]
    exact ⟨g, by simp, HLess.out _ _ _ U10.out⟩
  have q1 : (x.kind == 1) = false := beq_eq_false_iff_ne.2 hk1
  by_cases hk2 : x.kind = 2
  · have q2 : (x.kind == 2) = true := beq_iff_eq.2 hk2
    have HR := Lib.hid (show actU u x = (trimD u x.epoch x.adr).1 from by unfold actU; rw [if_neg hk0, if_pos hk2])
    have U6 := Lib.hid (H1.out.below HD.out HX.out ((Below.refl w6.heap.size w6).drew))
    have D6 := Lib.hid (HK.out w6.drew U6.out.else0)
    obtain ⟨r, hr⟩ : ∃ r, (trimD u x.epoch x.adr).2 = r := ⟨_, rfl⟩
    obtain ⟨v, hv⟩ : ∃ v, (trimD u x.epoch x.adr).1 = v := ⟨_, rfl⟩
    have CW := Lib.hid (fun (Y : World) (hY : UR D w (fun k => False ∨ k = bb) (fun Y => True ∧ Y.heap[bb]? = some (.cells x.cells 30 (0, 0))) dev n N u u g q Y) => hY.trim HD.out HX.out HE.out HNn.out.2 (by have := HNl.out; omega) x.epoch x.adr)
    have CRw := Lib.hid (fun (Y : World) (hY : UR D w (fun k => False ∨ k = bb) (fun Y => True ∧ Y.heap[bb]? = some (.cells x.cells 30 (0, 0))) dev n (N + 1) (trimD u x.epoch x.adr).1 u g q Y) => hY.rtrim HD.out HX.out HOk.out x.epoch x.adr)
    rw [hr, hv] at CW
    rw [hr, hv] at CRw
    have HRv := Lib.hid hv
    clear hk0 hk1 hk2 hr hv H1
    go_enter Tryz.func8, Tryz.ntmps8
    go_wp2_with fail
    clear hw6 hbb
    go_region_held3 (fun Y => Y.cell? ⟨bb, 0, none⟩ = some (.int .i64 x.kind) ∧ Y.cell? ⟨bb, 1, none⟩ = some (.int .i64 x.epoch) ∧ Y.cell? ⟨bb, 2, none⟩ = some (.int .i64 x.adr) ∧ Y.cell? ⟨bb, 3, none⟩ = some (.int .i64 x.len) ∧ Y.cell? ⟨bb, 4, none⟩ = some (.int .u8 (x.byte.toNat : Int)))
      (first | exact D6.out | exact D8.out | exact D9.out | exact D11.out | assumption)
      (first
        | (go_at_call 16; (with_reducible refine (CW.out _ U6.out).mono ?_); rintro en w8 ⟨y, rfl, hy, hU8⟩; have D8 := Lib.hid (HK.out _ hU8.else0); have U8 := Lib.hid hU8; have CN := Lib.hid (num_any a y r w8 (HE.out.below hU8.since) hy); clear hy hU8)
        | (go_at_call 22; (with_reducible refine CN.out.mono ?_); rintro en w9 ⟨rfl, hb9⟩; have U9 := Lib.hid (U8.out.below HD.out HX.out hb9); have D9 := Lib.hid (HK.out _ U9.out.else0); clear hb9)
        | (go_at_call 17; (with_reducible refine (CRw.out _ U9.out).mono ?_); rintro en w11 ⟨rfl, hU11⟩; have U11 := Lib.hid hU11; have D11 := Lib.hid (HK.out _ hU11.else0); clear hU11))
    clear D6 D8 D9 CW CRw CN U6 U8 U9 d0 d1 d2 d3 d4
    go_wp2_with fail
    go_ret2
    rw [HR.out, HRv.out]
    exact ⟨g, by simp, HLess.out _ _ _ U11.out⟩
  have q2 : (x.kind == 2) = false := beq_eq_false_iff_ne.2 hk2
  by_cases hk3 : x.kind = 3
  · have q3 : (x.kind == 3) = true := beq_iff_eq.2 hk3
    have HR := Lib.hid (show actU u x = (sealD u x.epoch).1 from by unfold actU; rw [if_neg hk0, if_neg hk2, if_pos hk3])
    obtain ⟨r, hr⟩ : ∃ r, (sealD u x.epoch).2.2 = r := ⟨_, rfl⟩
    obtain ⟨k, hk⟩ : ∃ k, (sealD u x.epoch).2.1 = k := ⟨_, rfl⟩
    obtain ⟨v, hv⟩ : ∃ v, (sealD u x.epoch).1 = v := ⟨_, rfl⟩
    have C1 := Lib.hid (H1.out.seal HD.out HX.out HE.out HNn.out.2 (by have := HNl.out; omega) x.epoch)
    have C2 := Lib.hid (fun (Y : World) (hY : UR D w (fun k => False ∨ k = bb) (fun Y => True ∧ Y.heap[bb]? = some (.cells x.cells 30 (0, 0))) dev n (N + 1) (sealD u x.epoch).1 u g q Y) => hY.rseal HD.out HX.out HOk.out x.epoch)
    rw [hr, hk, hv] at C1 C2
    have HRv := Lib.hid hv
    clear hk0 hk1 hk2 hk3 hr hk hv H1
    go_enter Tryz.func8, Tryz.ntmps8
    go_wp2_with fail
    refine C1.out.mono ?_
    rintro en w8 ⟨y, rfl, hy, hU8⟩
    have U8 := Lib.hid hU8
    have CN := Lib.hid (fun (Y : World) (hY : Below w.heap.size w Y) => num_any a y r Y (HE.out.below hY) hy)
    clear hw6 hbb d0 d1 d2 d3 d4 hy hU8 C1
    obtain ⟨d0, d1, d2, d3, d4⟩ := HK.out _ U8.out.else0
    go_wp2_with fail
    refine (C2.out _ U8.out).mono ?_
    rintro en w9 ⟨rfl, hU9⟩
    have U9 := Lib.hid hU9
    have CN9 := Lib.hid (CN.out _ hU9.since)
    clear d0 d1 d2 d3 d4 hU9 C2 CN
    go_wp2_with fail
    refine CN9.out.mono ?_
    rintro en w10 ⟨rfl, hb10⟩
    have U10 := Lib.hid (U9.out.below HD.out HX.out hb10)
    clear hb10 CN9
    go_wp2_with fail
    go_ret2
    rw [HR.out, HRv.out]
    exact ⟨g, by simp, HLess.out _ _ _ U10.out⟩
  · have q3 : (x.kind == 3) = false := beq_eq_false_iff_ne.2 hk3
    have HR := Lib.hid (show actU u x = u from by unfold actU; rw [if_neg hk0, if_neg hk2, if_neg hk3])
    have C1 := Lib.hid (H1.out.open HD.out HX.out HE.out HNn.out.1 HNn.out.2 (by have := HNl.out; omega))
    clear hk0 hk1 hk2 hk3 H1
    go_enter Tryz.func8, Tryz.ntmps8
    go_wp2_with fail
    refine C1.out.mono ?_
    rintro en w8 ⟨g', rfl, hU8⟩
    have U8 := Lib.hid (hU8.mono (Nat.le_succ N))
    clear hw6 hbb d0 d1 d2 d3 d4 hU8 C1
    go_wp2_with fail
    go_ret2
    rw [HR.out]
    exact ⟨g', by simp, HLess.out _ _ _ U8.out⟩
end
end Go.Proofs.YtbhohlefgkcdmaaGreatDoor

/- UnitPlays: the law, walked: units answer as told, in every order, and are the same when they are opened anew. -/
namespace Go.Proofs.YtbhohlefgkcdmaaGreatDoor
open Go Go.RowKit Go.Shelf Tide

section
variable {D : DvP} {a : Nat → Addr} {w : World}
/-- The document's own unit, new, beside a unit that is new. -/
theorem UR.new (hD : DvSpec (three a) D) {g p bm dev n k : Nat} {W : World} (h : UL D w (fun _ => False) (fun _ => True) g p bm dev n 0 ⟨⟨k, []⟩, [], 0, 0, 0⟩ W) : UR D w (fun _ => False) (fun _ => True) dev n 0 ⟨⟨k, []⟩, [], 0, 0, 0⟩ ⟨⟨k, []⟩, [], 0, 0, 0⟩ g (W.heap.size + 1) (refNew W k) := by
  have hb1 := (Below.refl W.heap.size W).alloc (Nat.le_refl _) (.cells #[.int .i64 (k : Int), .slice none 0 0] 74)
  have hb : Below W.heap.size W (refNew W k) := hb1.alloc (by rw [World.size_alloc]; omega) _
  have hz : (refNew W k).heap.size = W.heap.size + 2 := by unfold refNew; rw [World.size_alloc, World.size_alloc]
  have hz0 := h.since.size
  have h0 : (refNew W k).heap[W.heap.size + 1]? = some (.cells #[.pointer (some ⟨W.heap.size, 0, none⟩), .slice none 0 0, .slice none 0 0, .slice none 0 0, .int .i64 0, .int .i64 0, .int .i64 0] 71 (0, 0)) := by
    have := heap_alloc_new (W.alloc (.cells #[.int .i64 (k : Int), .slice none 0 0] 74)) (.cells #[.pointer (some ⟨W.heap.size, 0, none⟩), .slice none 0 0, .slice none 0 0, .slice none 0 0, .int .i64 0, .int .i64 0, .int .i64 0] 71)
    rw [World.size_alloc] at this
    exact this
  have hnil : ∀ (e : TypeId), (refNew W k).ownsRow 0 e 1 (.slice none 0 0) 0 [] := fun e => World.ownsRow_nil _ 0 e 1
  have hst : RefW (refNew W k) (fun b => b = W.heap.size) (fun _ => False) W.heap.size k [] (.slice none 0 0) := by
    refine { block := (Two.new W _ _ _).alloc _, segs := ⟨rfl, .inl ⟨rfl, rfl⟩⟩, rows := (fun g hg => by cases hg), fp := ⟨rfl, (fun k e => by cases e)⟩, lt := fun k hk => ?_, apart := List.Pairwise.nil }
    rw [hz]
    rcases hk with hk | hk
    · omega
    · exact hk.elim
  have hm : ∀ j, MineU (W.heap.size + 1) (.slice none 0 0) (.slice none 0 0) (.slice none 0 0) j → j = W.heap.size + 1 := fun j hj => by
    rcases hj with e | e | e | e
    · exact e
    · cases e
    · cases e
    · cases e
  have hr : RefU (refNew W k) (fun b => b = W.heap.size) (fun _ => False) (W.heap.size + 1) W.heap.size (.slice none 0 0) (.slice none 0 0) (.slice none 0 0) [] ⟨⟨k, []⟩, [], 0, 0, 0⟩ := {
    cells := h0
    store := ⟨[], _, rfl, hst⟩
    ats := hnil _
    pages := hnil _
    ins := hnil _
    bytes := ⟨rfl, fun i u b hu _ => by simp at hu⟩
    two := fun j e => by cases e
    mine := fun j hj => ⟨by have := hm j hj; omega, fun h => h, by have := hm j hj; omega⟩
    apart := fun _ _ h => h
    lt := fun j hj => by
      rcases hj with e | e
      · omega
      · exact e.elim }
  refine ⟨p, bm, fun j => j = W.heap.size ∨ j = W.heap.size + 1, fun _ => False, h.swap hD (K := fun _ => False) (Kept.of_below hb) (fun _ h => h.elim) (fun j hj => ?_) (fun j hj => ?_) ⟨trivial, _, _, _, _, _, _, hr, fun j => ⟨fun e => e.imp id (hm j), fun e => e.imp id (fun e => .inl e)⟩⟩, fun j hj => ⟨?_, fun h => h⟩⟩
  · rcases hj with e | (e | e) | e
    · exact e.elim
    · exact .inr (by omega)
    · exact .inr (by omega)
    · exact e.elim
  · rcases hj with e | (e | e) | e
    · exact e.elim
    · omega
    · omega
    · exact e.elim
  · rcases hj with (e | e) | e
    · omega
    · omega
    · exact e.elim
set_option maxRecDepth 100000 in
set_option maxHeartbeats 4000000 in
theorem unitPlays_law (hD : DvSpec (three a) D) (hE : Errs w a) (nn : Int) (v : Value) (ks : List ActU) (hk : ActsU w w.heap.size v ks) : Calls Tryz.prog 3 #[.int .i64 nn, v] w fun en w' => en = .returned (.bool true) ∧ Below w.heap.size w w' := by
  have CA := Lib.hid (ualive_any hD hE)
  obtain ⟨Av, cv, rfl, _, hcell⟩ := hk.form
  have HC := Lib.hid (fun i hi (W : World) (hb : Below w.heap.size w W) => show ∃ b o, Av = some ⟨b, o, none⟩ ∧ W.cell? ⟨b, o + i * 5, none⟩ = some (.int .i64 ks[i].kind) ∧ W.cell? ⟨b, o + i * 5 + 1, none⟩ = some (.int .i64 ks[i].epoch) ∧ W.cell? ⟨b, o + i * 5 + 2, none⟩ = some (.int .i64 ks[i].adr) ∧ W.cell? ⟨b, o + i * 5 + 3, none⟩ = some (.int .i64 ks[i].len) ∧ W.cell? ⟨b, o + i * 5 + 4, none⟩ = some (.int .u8 (ks[i].byte.toNat : Int)) from by
    obtain ⟨b, o, e, hlt, c0, c1, c2, c3, c4⟩ := hcell i hi
    have hc := below_cells hb
    exact ⟨b, o, e, (hc _ _ hlt).trans c0, (hc _ _ hlt).trans c1, (hc _ _ hlt).trans c2, (hc _ _ hlt).trans c3, (hc _ _ hlt).trans c4⟩)
  clear hk hcell
  by_cases h1 : 60 < ks.length
  · have q1 : decide ((60 : Int) < (ks.length : Int)) = true := decide_eq_true (by omega)
    clear h1
    go_enter Tryz.func3, Tryz.ntmps3
    go_wp2_with fail
    refine CA.out.mono ?_
    rintro en w1 ⟨rfl, hb⟩
    have HB := Lib.hid hb
    clear hb
    go_wp2_with fail
    go_ret
    exact ⟨rfl, HB.out⟩
  have q1 : decide ((60 : Int) < (ks.length : Int)) = false := decide_eq_false (by omega)
  obtain ⟨L, hL⟩ : ∃ L, ks.length = L := ⟨_, rfl⟩
  have hLe : L ≤ 60 := by omega
  rw [hL] at q1 ⊢
  have HL := Lib.hid hL
  clear h1 hL
  go_enter Tryz.func3, Tryz.ntmps3
  go_wp2_with fail
  refine CA.out.mono ?_
  rintro en w1 ⟨rfl, hb1⟩
  have CB := Lib.hid (ubegin_any hD hE w1 hb1 nn)
  clear hb1 CA
  go_wp2_with fail
  refine CB.out.mono ?_
  rintro en w2 ⟨k, dev, g, p, bm, w3, hk1, hk2, rfl, rfl, hU⟩
  obtain ⟨n, hn⟩ : ∃ n, 64 * k = n := ⟨_, rfl⟩
  rw [hn] at hU
  have HNn := Lib.hid (show 64 ≤ n ∧ n ≤ 1000 by omega)
  have U0 := Lib.hid (UR.new hD hU)
  have HD := Lib.hid hD
  have HE := Lib.hid hE
  generalize refNew w3 k = w4 at *
  generalize (⟨⟨k, []⟩, [], 0, 0, 0⟩ : UnitD) = u0 at *
  generalize w3.heap.size + 1 = q at *
  clear hU hn hk1 hk2 CB hD hE
  go_wp2_with fail
  go_loopw [32, 6] (fun i s6 wr => ∃ (k g : Nat) (u : UnitD), i = .int .i64 (k : Int) ∧ s6 = .pointer (some ⟨g, 0, none⟩) ∧ k ≤ L ∧ Hid (UR D w (fun _ => False) (fun _ => True) dev n k u u g q wr)) (fun i _ _ => L - (intOf i).toNat)
  case atStart => exact ⟨0, g, u0, rfl, rfl, Nat.zero_le _, U0⟩
  case round =>
    clear U0
    obtain ⟨k, g, u, rfl, rfl, hk, hU⟩ := hrel
    by_cases hlt : k < L
    rotate_left
    · have q2 : decide ((k : Int) < (L : Int)) = false := decide_eq_false (by omega)
      have CO := Lib.hid (hU.out.open HD.out stays_none HE.out HNn.out.1 HNn.out.2 (by omega))
      clear hU
      go_wp2_with fail
      refine CO.out.mono ?_
      rintro en w5 ⟨g', rfl, hU5⟩
      have CS := Lib.hid (usame_any HD.out stays_none HE.out HNn.out.2 (by omega) hU5)
      clear hU5 CO
      go_wp2_with fail
      refine CS.out.mono ?_
      rintro en w6 ⟨rfl, hU6⟩
      have HB := Lib.hid hU6.since
      clear hU6 CS
      go_wp2_with fail
      go_ret
      exact ⟨by simp, HB.out⟩
    have q2 : decide ((k : Int) < (L : Int)) = true := decide_eq_true (by omega)
    obtain ⟨b, o, rfl, c0, c1, c2, c3, c4⟩ := HC.out k (by rw [HL.out]; exact hlt) wr hU.out.since
    obtain ⟨x, hx⟩ : ∃ x : ActU, x = ks[k]'(by rw [HL.out]; exact hlt) := ⟨_, rfl⟩
    rw [← hx] at c0 c1 c2 c3 c4
    clear hx
    have U1 := Lib.hid (hU.out.below HD.out stays_none ((Below.refl wr.heap.size wr).alloc (Nat.le_refl _) (.cells x.cells 30)))
    have CD := Lib.hid (udo_any HD.out HE.out HNn.out (by omega) U1.out x)
    have hbx : (wr.alloc (.cells x.cells 30)).heap[wr.heap.size]? = some (.cells x.cells 30 (0, 0)) := heap_alloc_new _ _
    clear hU
    go_wp2_with fail
    refine CD.out.mono ?_
    rintro en w5 ⟨g2, rfl, hU5⟩
    have CS := Lib.hid (usame_any HD.out stays_none HE.out HNn.out.2 (by omega) hU5)
    generalize actU u x = u2 at *
    clear hU5 CD U1 hbx c0 c1 c2 c3 c4
    go_wp2_with fail
    refine CS.out.mono ?_
    rintro en w6 ⟨rfl, hU6⟩
    have U6 := Lib.hid hU6
    clear hU6 CS
    go_wp2_with fail
    go_roundw
    case rel => exact ⟨k + 1, g2, u2, by go_num, rfl, by omega, U6⟩
    case measure => simp [intOf]; omega
end
end Go.Proofs.YtbhohlefgkcdmaaGreatDoor
