/- The laws of a unit: an act is answered as told, whatever else lies besides (XUlW's walk, of any FX0 and X0). -/
import Derived.Test.YtcpanaokfbojnaaGreatDoorGUlR
import Derived.Test.YtcpanaokfbojnaaGreatDoorGUlA
import Derived.Deep.DeepCutAuto
import Derived.Deep.CutBlock
import Derived.Deep.CutRange
import Derived.Deep.RegionHeld3
namespace Go.Proofs.YtcpanaokfbojnaaGreatDoor
open Go Go.RowKit Go.Shelf Tide

def actU (u : UnitD) (x : ActU) : UnitD :=
  if x.kind = 0 then (writeD u x.epoch x.adr x.page).1 else if x.kind = 2 then (trimD u x.epoch x.adr).1 else if x.kind = 3 then (sealD u x.epoch).1 else u
section
variable {D : DvP} {a : Nat → Addr} {w W : World} {FX0 : Nat → Prop} {X0 : World → Prop} {g q dev n N : Nat} {u : UnitD}
set_option maxRecDepth 100000 in
set_option maxHeartbeats 4000000 in
theorem udo_gen (hD : DvSpec (three a) D) (hXs : Stays FX0 X0) (hE : Errs w a) (hn : 64 ≤ n ∧ n ≤ 1000) (hNl : N ≤ 80000) (h : UR D w FX0 X0 dev n N u u g q W) (x : ActU) :
    Calls Tryz.prog 8 #[.pointer (some ⟨dev, 0, none⟩), .pointer (some ⟨g, 0, none⟩), .pointer (some ⟨q, 0, none⟩), .agg x.cells] W fun e w' => ∃ g', e = .returned (.tuple #[.pointer (some ⟨g', 0, none⟩), .bool true]) ∧ UR D w FX0 X0 dev n (N + 1) (actU u x) (actU u x) g' q w' := by
  have hok := h.okR hn.2 (by omega)
  have h1 := h.box hD hXs (.cells x.cells 30)
  have hXb := hXs.box W.heap.size (.cells x.cells 30)
  have HOk := Lib.hid hok
  have HD := Lib.hid hD
  have HE := Lib.hid hE
  have HNn := Lib.hid hn
  have HNl := Lib.hid hNl
  generalize hw6 : W.alloc (.cells x.cells 30) = w6 at *
  generalize hbb : W.heap.size = bb at *
  have HX := Lib.hid hXb
  have H1 := Lib.hid h1
  have HK := Lib.hid (fun (Y : World) (hY : X0 Y ∧ Y.heap[bb]? = some (.cells x.cells 30 (0, 0))) => show Y.cell? ⟨bb, 0, none⟩ = some (.int .i64 x.kind) ∧ Y.cell? ⟨bb, 1, none⟩ = some (.int .i64 x.epoch) ∧ Y.cell? ⟨bb, 2, none⟩ = some (.int .i64 x.adr) ∧ Y.cell? ⟨bb, 3, none⟩ = some (.int .i64 x.len) ∧ Y.cell? ⟨bb, 4, none⟩ = some (.int .u8 (x.byte.toNat : Int)) from
    ⟨by rw [cell_of_row _ _ 0 _ _ _ hY.2]; rfl, by rw [cell_of_row _ _ 1 _ _ _ hY.2]; rfl, by rw [cell_of_row _ _ 2 _ _ _ hY.2]; rfl, by rw [cell_of_row _ _ 3 _ _ _ hY.2]; rfl, by rw [cell_of_row _ _ 4 _ _ _ hY.2]; rfl⟩)
  have HLess := Lib.hid (fun (v : UnitD) (g' : Nat) (Y : World) (hY : UR D w (fun k => FX0 k ∨ k = bb) (fun Y => X0 Y ∧ Y.heap[bb]? = some (.cells x.cells 30 (0, 0))) dev n (N + 1) v v g' q Y) => show UR D w FX0 X0 dev n (N + 1) v v g' q Y from hY.less (fun _ h => .inl h) (fun _ hY => hY.1))
  obtain ⟨d0, d1, d2, d3, d4⟩ := HK.out _ h1.else0
  clear h hok h1 hXb hD hE hn hNl
  by_cases hk0 : x.kind = 0
  · have q3 : (x.kind == 0) = true := beq_iff_eq.2 hk0
    have HR := Lib.hid (show actU u x = (writeD u x.epoch x.adr x.page).1 from by unfold actU; rw [if_pos hk0])
    have CP := Lib.hid (fun Y => page_any x Y)
    have HU6 := Lib.hid (fun (Y : World) (hb : Below w6.heap.size w6 Y) => H1.out.below HD.out HX.out hb)
    have D6 := Lib.hid (HK.out w6.drew (HU6.out _ ((Below.refl _ _).drew)).else0)
    obtain ⟨r, hr⟩ : ∃ r, (writeD u x.epoch x.adr x.page).2 = r := ⟨_, rfl⟩
    obtain ⟨v, hv⟩ : ∃ v, (writeD u x.epoch x.adr x.page).1 = v := ⟨_, rfl⟩
    have CW := Lib.hid (fun (Y : World) (vb : Value) (hY : UR D w (fun k => FX0 k ∨ k = bb) (fun Y => X0 Y ∧ Y.heap[bb]? = some (.cells x.cells 30 (0, 0))) dev n N u u g q Y) (hv : Bytes Y Y.heap.size vb x.page) => hY.write HD.out HX.out HE.out HNn.out.2 (by have := HNl.out; omega) x.epoch x.adr vb x.page hv)
    have CRw := Lib.hid (fun (Y Y' : World) (vb : Value) (hY : UR D w (fun k => FX0 k ∨ k = bb) (fun Y => X0 Y ∧ Y.heap[bb]? = some (.cells x.cells 30 (0, 0))) dev n (N + 1) (writeD u x.epoch x.adr x.page).1 u g q Y) (hb : Below Y.heap.size Y Y') (hv : Y'.ownsRow Y.heap.size 5 1 vb x.page.length (u8s x.page)) => hY.rwrite HD.out HX.out HOk.out hb x.epoch x.adr vb x.page hv)
    rw [hr, hv] at CW
    rw [hr, hv] at CRw
    have HPl := Lib.hid (x.page_len)
    have T1 := Lib.hid trivial
    have HRv := Lib.hid hv
    clear hk0 hr hv H1
    go_enter Tryz.func8, Tryz.ntmps8
    go_wp2_with fail
    clear hw6 hbb
    go_region_held3 (fun Y => Y.cell? ⟨bb, 0, none⟩ = some (.int .i64 x.kind) ∧ Y.cell? ⟨bb, 1, none⟩ = some (.int .i64 x.epoch) ∧ Y.cell? ⟨bb, 2, none⟩ = some (.int .i64 x.adr) ∧ Y.cell? ⟨bb, 3, none⟩ = some (.int .i64 x.len) ∧ Y.cell? ⟨bb, 4, none⟩ = some (.int .u8 (x.byte.toNat : Int)))
      (first | exact D6.out | exact D7.out | exact D8.out | exact D9.out | exact D10.out | exact D11.out | assumption)
      (first
        | (go_at_call 14; clear T1; (with_reducible refine (CP.out _).mono ?_); rintro en w7 ⟨vp, rfl, hvp, hb7⟩; have U7 := Lib.hid (HU6.out _ (((Below.refl w6.heap.size w6).drew).trans (hb7.mono (Nat.le_refl _)))); have D7 := Lib.hid (HK.out _ U7.out.else0); have V7 := Lib.hid (Bytes.of_own hvp); clear hvp hb7)
        | (go_at_call 13; (with_reducible refine (CW.out _ _ U7.out V7.out).mono ?_); rintro en w8 ⟨y, rfl, hy, hU8⟩; have D8 := Lib.hid (HK.out _ hU8.else0); have U8 := Lib.hid hU8; have CN := Lib.hid (num_any a y r w8 (HE.out.below hU8.since) hy); clear hy hU8)
        | (go_at_call 22; (with_reducible refine CN.out.mono ?_); rintro en w9 ⟨rfl, hb9⟩; have U9 := Lib.hid (U8.out.below HD.out HX.out hb9); have D9 := Lib.hid (HK.out _ U9.out.else0); clear hb9)
        | (go_at_call 14; (with_reducible refine (CP.out _).mono ?_); rintro en w10 ⟨vq, rfl, hvq, hb10⟩; have HB10 := Lib.hid hb10; have D10 := Lib.hid (HK.out _ (U9.out.below HD.out HX.out hb10).else0); have V10 := Lib.hid (show World.ownsRow _ _ _ _ _ x.page.length _ from HPl.out ▸ hvq); clear hvq hb10)
        | (go_at_call 15; (with_reducible refine (CRw.out _ _ _ U9.out HB10.out V10.out).mono ?_); rintro en w11 ⟨rfl, hU11⟩; have U11 := Lib.hid hU11; have D11 := Lib.hid (HK.out _ hU11.else0); clear hU11))
    clear D6 D7 D8 D9 D10 CP CW CRw CN HU6 U7 U8 U9 V7 V10 HB10 d0 d1 d2 d3 d4
    go_wp2_with fail
    go_ret2
    rw [HR.out, HRv.out]
    exact ⟨g, by simp, HLess.out _ _ _ U11.out⟩
  have q0 : (x.kind == 0) = false := beq_eq_false_iff_ne.2 hk0
  by_cases hk1 : x.kind = 1
  · have q1 : (x.kind == 1) = true := beq_iff_eq.2 hk1
    have HR := Lib.hid (show actU u x = u from by unfold actU; rw [if_neg (by omega), if_neg (by omega), if_neg (by omega)])
    obtain ⟨r, hr⟩ : ∃ r, (readU u x.epoch x.adr).2 = r := ⟨_, rfl⟩
    obtain ⟨l, hl⟩ : ∃ l, (readU u x.epoch x.adr).1 = l := ⟨_, rfl⟩
    have C1 := Lib.hid (H1.out.read HD.out HX.out HE.out x.epoch x.adr)
    have C2 := Lib.hid (fun (Y : World) (hY : UR D w (fun k => FX0 k ∨ k = bb) (fun Y => X0 Y ∧ Y.heap[bb]? = some (.cells x.cells 30 (0, 0))) dev n N u u g q Y) => hY.rread HD.out HX.out HOk.out x.epoch x.adr)
    rw [hr, hl] at C1 C2
    clear hk0 hk1 hr hl H1
    go_enter Tryz.func8, Tryz.ntmps8
    go_wp2_with fail
    refine C1.out.mono ?_
    rintro en w8 ⟨vv, y, rfl, hv, hy, hb8, hU8⟩
    obtain ⟨A1, c1, rfl, _, _, _⟩ := hv.form
    have U8 := Lib.hid hU8
    have HV := Lib.hid hv
    have HY := Lib.hid hy
    clear hw6 hbb d0 d1 d2 d3 d4 hv hy hb8 hU8 C1
    obtain ⟨d0, d1, d2, d3, d4⟩ := HK.out _ U8.out.else0
    go_wp2_with fail
    refine (C2.out _ U8.out).mono ?_
    rintro en w9 ⟨vv, rfl, hv, hb9, hU9⟩
    obtain ⟨A2, c2, rfl, _, _, _⟩ := hv.form
    have cv1 := conv_bytes (HV.out.below hb9)
    have cv2 := conv_bytes hv
    have U9 := Lib.hid hU9
    have CN := Lib.hid (num_any a y r w9 (HE.out.below hU9.since) HY.out)
    clear d0 d1 d2 d3 d4 hv hb9 hU9 C2
    go_wp2_with fail
    refine CN.out.mono ?_
    rintro en w10 ⟨rfl, hb10⟩
    have U10 := Lib.hid ((U9.out.below HD.out HX.out hb10).mono (Nat.le_succ N))
    clear hb10 CN cv1 cv2
    go_wp2_with fail
    go_ret2
    rw [HR.out]
    exact ⟨g, by simp, HLess.out _ _ _ U10.out⟩
  have q1 : (x.kind == 1) = false := beq_eq_false_iff_ne.2 hk1
  by_cases hk2 : x.kind = 2
  · have q2 : (x.kind == 2) = true := beq_iff_eq.2 hk2
    have HR := Lib.hid (show actU u x = (trimD u x.epoch x.adr).1 from by unfold actU; rw [if_neg hk0, if_pos hk2])
    have U6 := Lib.hid (H1.out.below HD.out HX.out ((Below.refl w6.heap.size w6).drew))
    have D6 := Lib.hid (HK.out w6.drew U6.out.else0)
    obtain ⟨r, hr⟩ : ∃ r, (trimD u x.epoch x.adr).2 = r := ⟨_, rfl⟩
    obtain ⟨v, hv⟩ : ∃ v, (trimD u x.epoch x.adr).1 = v := ⟨_, rfl⟩
    have CW := Lib.hid (fun (Y : World) (hY : UR D w (fun k => FX0 k ∨ k = bb) (fun Y => X0 Y ∧ Y.heap[bb]? = some (.cells x.cells 30 (0, 0))) dev n N u u g q Y) => hY.trim HD.out HX.out HE.out HNn.out.2 (by have := HNl.out; omega) x.epoch x.adr)
    have CRw := Lib.hid (fun (Y : World) (hY : UR D w (fun k => FX0 k ∨ k = bb) (fun Y => X0 Y ∧ Y.heap[bb]? = some (.cells x.cells 30 (0, 0))) dev n (N + 1) (trimD u x.epoch x.adr).1 u g q Y) => hY.rtrim HD.out HX.out HOk.out x.epoch x.adr)
    rw [hr, hv] at CW
    rw [hr, hv] at CRw
    have HRv := Lib.hid hv
    clear hk0 hk1 hk2 hr hv H1
    go_enter Tryz.func8, Tryz.ntmps8
    go_wp2_with fail
    clear hw6 hbb
    go_region_held3 (fun Y => Y.cell? ⟨bb, 0, none⟩ = some (.int .i64 x.kind) ∧ Y.cell? ⟨bb, 1, none⟩ = some (.int .i64 x.epoch) ∧ Y.cell? ⟨bb, 2, none⟩ = some (.int .i64 x.adr) ∧ Y.cell? ⟨bb, 3, none⟩ = some (.int .i64 x.len) ∧ Y.cell? ⟨bb, 4, none⟩ = some (.int .u8 (x.byte.toNat : Int)))
      (first | exact D6.out | exact D8.out | exact D9.out | exact D11.out | assumption)
      (first
        | (go_at_call 16; (with_reducible refine (CW.out _ U6.out).mono ?_); rintro en w8 ⟨y, rfl, hy, hU8⟩; have D8 := Lib.hid (HK.out _ hU8.else0); have U8 := Lib.hid hU8; have CN := Lib.hid (num_any a y r w8 (HE.out.below hU8.since) hy); clear hy hU8)
        | (go_at_call 22; (with_reducible refine CN.out.mono ?_); rintro en w9 ⟨rfl, hb9⟩; have U9 := Lib.hid (U8.out.below HD.out HX.out hb9); have D9 := Lib.hid (HK.out _ U9.out.else0); clear hb9)
        | (go_at_call 17; (with_reducible refine (CRw.out _ U9.out).mono ?_); rintro en w11 ⟨rfl, hU11⟩; have U11 := Lib.hid hU11; have D11 := Lib.hid (HK.out _ hU11.else0); clear hU11))
    clear D6 D8 D9 CW CRw CN U6 U8 U9 d0 d1 d2 d3 d4
    go_wp2_with fail
    go_ret2
    rw [HR.out, HRv.out]
    exact ⟨g, by simp, HLess.out _ _ _ U11.out⟩
  have q2 : (x.kind == 2) = false := beq_eq_false_iff_ne.2 hk2
  by_cases hk3 : x.kind = 3
  · have q3 : (x.kind == 3) = true := beq_iff_eq.2 hk3
    have HR := Lib.hid (show actU u x = (sealD u x.epoch).1 from by unfold actU; rw [if_neg hk0, if_neg hk2, if_pos hk3])
    obtain ⟨r, hr⟩ : ∃ r, (sealD u x.epoch).2.2 = r := ⟨_, rfl⟩
    obtain ⟨k, hk⟩ : ∃ k, (sealD u x.epoch).2.1 = k := ⟨_, rfl⟩
    obtain ⟨v, hv⟩ : ∃ v, (sealD u x.epoch).1 = v := ⟨_, rfl⟩
    have C1 := Lib.hid (H1.out.seal HD.out HX.out HE.out HNn.out.2 (by have := HNl.out; omega) x.epoch)
    have C2 := Lib.hid (fun (Y : World) (hY : UR D w (fun k => FX0 k ∨ k = bb) (fun Y => X0 Y ∧ Y.heap[bb]? = some (.cells x.cells 30 (0, 0))) dev n (N + 1) (sealD u x.epoch).1 u g q Y) => hY.rseal HD.out HX.out HOk.out x.epoch)
    rw [hr, hk, hv] at C1 C2
    have HRv := Lib.hid hv
    clear hk0 hk1 hk2 hk3 hr hk hv H1
    go_enter Tryz.func8, Tryz.ntmps8
    go_wp2_with fail
    refine C1.out.mono ?_
    rintro en w8 ⟨y, rfl, hy, hU8⟩
    have U8 := Lib.hid hU8
    have CN := Lib.hid (fun (Y : World) (hY : Below w.heap.size w Y) => num_any a y r Y (HE.out.below hY) hy)
    clear hw6 hbb d0 d1 d2 d3 d4 hy hU8 C1
    obtain ⟨d0, d1, d2, d3, d4⟩ := HK.out _ U8.out.else0
    go_wp2_with fail
    refine (C2.out _ U8.out).mono ?_
    rintro en w9 ⟨rfl, hU9⟩
    have U9 := Lib.hid hU9
    have CN9 := Lib.hid (CN.out _ hU9.since)
    clear d0 d1 d2 d3 d4 hU9 C2 CN
    go_wp2_with fail
    refine CN9.out.mono ?_
    rintro en w10 ⟨rfl, hb10⟩
    have U10 := Lib.hid (U9.out.below HD.out HX.out hb10)
    clear hb10 CN9
    go_wp2_with fail
    go_ret2
    rw [HR.out, HRv.out]
    exact ⟨g, by simp, HLess.out _ _ _ U10.out⟩
  · have q3 : (x.kind == 3) = false := beq_eq_false_iff_ne.2 hk3
    have HR := Lib.hid (show actU u x = u from by unfold actU; rw [if_neg hk0, if_neg hk2, if_neg hk3])
    have C1 := Lib.hid (H1.out.open HD.out HX.out HE.out HNn.out.1 HNn.out.2 (by have := HNl.out; omega))
    clear hk0 hk1 hk2 hk3 H1
    go_enter Tryz.func8, Tryz.ntmps8
    go_wp2_with fail
    refine C1.out.mono ?_
    rintro en w8 ⟨g', rfl, hU8⟩
    have U8 := Lib.hid (hU8.mono (Nat.le_succ N))
    clear hw6 hbb d0 d1 d2 d3 d4 hU8 C1
    go_wp2_with fail
    go_ret2
    rw [HR.out]
    exact ⟨g', by simp, HLess.out _ _ _ U8.out⟩
end
end Go.Proofs.YtcpanaokfbojnaaGreatDoor

/- The laws of a unit: behind a loss of power all that was answered is there. -/
namespace Go.Proofs.YtcpanaokfbojnaaGreatDoor
open Go Go.RowKit Go.Shelf Tide

theorem eql_errU (b : Addr) (w : World) : (binOp BinOp.eql 35 (errAt b) .nilIface).run Tryz.prog w = .ok (.bool false) w := by kernel_rfl
theorem eql_nilU (w : World) : (binOp BinOp.eql 35 .nilIface .nilIface).run Tryz.prog w = .ok (.bool true) w := by kernel_rfl
theorem sizeActU (w : World) : (Go.sizeOf (Tryz.prog.elem 22)).run Tryz.prog w = .ok 5 w := by kernel_rfl
theorem elemActU : Tryz.prog.underlying 22 = some (.slice (Tryz.prog.elem 22)) := by kernel_rfl
theorem cut_acts (b o L c m : Nat) (hm : m ≤ c) (W : World) : (Instr.slice 22 (.slice (some ⟨b, o, none⟩) L c) none (some (.int .i64 (m : Int))) none).run Tryz.prog W = .ok (.slice (some ⟨b, o, none⟩) m c) W := by
  rw [run_slice_h _ _ _ _ _ elemActU _ _ (by omega) (by omega), sizeActU]
  simp [Result.andThen, sliced, Addr.add]
theorem agree_refl (u : UnitD) : Agree u u := ⟨rfl, rfl, rfl, fun _ => rfl⟩
section
variable {D : DvP} {a : Nat → Addr} {w W W' : World} {FX0 : Nat → Prop} {X0 : World → Prop} {G1 S1 G2 S2 : Nat → Prop} {q1 q2 g p bm dev n N : Nat} {u u1 : UnitD}
theorem UM.write (hD : DvSpec (three a) D) {FX : Nat → Prop} {X : World → Prop} (hX : Stays FX X) (hE : Errs w a) (hn : n ≤ 1000) (hNl : N ≤ 90000) (h : UM D w FX X g p bm dev n N u W) (ep a' : Int) (vb : Value) (b : List UInt8) (hv : Bytes W W.heap.size vb b) :
    Calls Tryz.prog 13 #[.pointer (some ⟨g, 0, none⟩), .int .i64 ep, .int .i64 a', vb] W fun e w' => ∃ x, e = .returned x ∧ UE D a w FX X g p bm dev n N u (writeD u ep a' b).1 (writeD u ep a' b).2 x w' := by
  obtain ⟨d, s, l, h1, h2, h4, h5, h6, h7⟩ := h
  exact (write_step hD hX hE hn h1 h2 h4 h7 hNl h5 h6 ep a' vb b hv).mono fun e w' ⟨x, he, hr⟩ => ⟨x, he, UE.of hr⟩
theorem UM.trim (hD : DvSpec (three a) D) {FX : Nat → Prop} {X : World → Prop} (hX : Stays FX X) (hE : Errs w a) (hn : n ≤ 1000) (hNl : N ≤ 90000) (h : UM D w FX X g p bm dev n N u W) (ep a' : Int) :
    Calls Tryz.prog 16 #[.pointer (some ⟨g, 0, none⟩), .int .i64 ep, .int .i64 a'] W fun e w' => ∃ x, e = .returned x ∧ UE D a w FX X g p bm dev n N u (trimD u ep a').1 (trimD u ep a').2 x w' := by
  obtain ⟨d, s, l, h1, h2, h4, h5, h6, h7⟩ := h
  exact (trim_step hD hX hE hn h1 h2 h4 h7 hNl h5 h6 ep a').mono fun e w' ⟨x, he, hr⟩ => ⟨x, he, UE.of hr⟩
theorem UM.seal (hD : DvSpec (three a) D) {FX : Nat → Prop} {X : World → Prop} (hX : Stays FX X) (hE : Errs w a) (hn : n ≤ 1000) (hNl : N ≤ 90000) (h : UM D w FX X g p bm dev n N u W) (ep : Int) :
    Calls Tryz.prog 18 #[.pointer (some ⟨g, 0, none⟩), .int .i64 ep] W fun e w' => ∃ (k : Int) (x : Value), e = .returned (.tuple #[.int .i64 k, x]) ∧ UE D a w FX X g p bm dev n N u (sealD u ep).1 (sealD u ep).2.2 x w' := by
  obtain ⟨d, s, l, h1, h2, h4, h5, h6, h7⟩ := h
  exact (seal_step hD hX hE hn h1 h2 h4 h7 hNl h5 h6 ep).mono fun e w' ⟨k, x, he, _, hr⟩ => ⟨k, x, he, UE.of hr⟩
def UB (D : DvP) (a : Nat → Addr) (w : World) (FX0 : Nat → Prop) (X0 : World → Prop) (q q2 g p bm dev n N : Nat) (u ub : UnitD) (r : Nat) (x : Value) (W : World) : Prop :=
  ∃ G1 S1 G2 S2, UE D a w (FX3 FX0 G1 S1 G2 S2) (X3 X0 G1 S1 G2 S2 q q2 u ub) g p bm dev n N u ub r x W ∧ Sep3 w FX0 G1 S1 G2 S2
theorem UE.rwrite {ub : UnitD} {r : Nat} {x : Value} (hD : DvSpec (three a) D) (hX : Stays FX0 X0) (hok : OkR u1) (h : UE D a w (FX3 FX0 G1 S1 G2 S2) (X3 X0 G1 S1 G2 S2 q1 q2 u u1) g p bm dev n N u ub r x W) (hs : Sep3 w FX0 G1 S1 G2 S2) (hb : Below W.heap.size W W') (ep a' : Int) (vb : Value) (b : List UInt8) (hv : W'.ownsRow W.heap.size 5 1 vb b.length (u8s b)) (hub : (writeD u1 ep a' b).1 = ub) :
    Calls Tryz.prog 15 #[.pointer (some ⟨q2, 0, none⟩), .int .i64 ep, .int .i64 a', vb] W' fun e w' => ∃ k : Nat, e = .returned (.int .i64 (k : Int)) ∧ UB D a w FX0 X0 q1 q2 g p bm dev n N u ub r x w' := by
  have hlt := h.else'.2.2.lt
  have h' := h.below hD (stays3 hX) hb
  obtain ⟨F, p0, va, vp, vi, rs, hr, hG⟩ := h'.else'.2.2
  refine (rwrite_any hr hok.small hok.rows ep a' (Bytes.of_own hv) (fun k e e' => ?_)).mono ?_
  · have := (hv.lt k e).1
    have := hlt k (.inl ((hG k).1 e'))
    omega
  · rintro e w' ⟨he, G', S', g1, g2, g3, g4⟩
    obtain ⟨k1, k2⟩ := UE.step3 hD hX h' hs g1 (fun k e => (g2 k e).imp (hG k).1 id) g3 (g4.mono (fun k _ e => (hG k).1 e))
    rw [hub] at k1
    exact ⟨_, he, _, _, _, _, k1, k2⟩
theorem UE.rtrim {ub : UnitD} {r : Nat} {x : Value} (hD : DvSpec (three a) D) (hX : Stays FX0 X0) (hok : OkR u1) (h : UE D a w (FX3 FX0 G1 S1 G2 S2) (X3 X0 G1 S1 G2 S2 q1 q2 u u1) g p bm dev n N u ub r x W) (hs : Sep3 w FX0 G1 S1 G2 S2) (ep a' : Int) (hub : (trimD u1 ep a').1 = ub) :
    Calls Tryz.prog 17 #[.pointer (some ⟨q2, 0, none⟩), .int .i64 ep, .int .i64 a'] W fun e w' => ∃ k : Nat, e = .returned (.int .i64 (k : Int)) ∧ UB D a w FX0 X0 q1 q2 g p bm dev n N u ub r x w' := by
  obtain ⟨F, p0, va, vp, vi, rs, hr, hG⟩ := h.else'.2.2
  refine (rtrim_any hr hok.small ep a' hok.rows hok.epoch hok.small2 hok.trims).mono ?_
  rintro e w' ⟨he, G', S', g1, g2, g3, g4⟩
  obtain ⟨k1, k2⟩ := UE.step3 hD hX h hs g1 (fun k e => (g2 k e).imp (hG k).1 id) g3 (g4.mono (fun k _ e => (hG k).1 e))
  rw [hub] at k1
  exact ⟨_, he, _, _, _, _, k1, k2⟩
theorem UE.rseal {ub : UnitD} {r : Nat} {x : Value} (hD : DvSpec (three a) D) (hX : Stays FX0 X0) (hok : OkR u1) (h : UE D a w (FX3 FX0 G1 S1 G2 S2) (X3 X0 G1 S1 G2 S2 q1 q2 u u1) g p bm dev n N u ub r x W) (hs : Sep3 w FX0 G1 S1 G2 S2) (ep : Int) (hub : (sealD u1 ep).1 = ub) :
    Calls Tryz.prog 19 #[.pointer (some ⟨q2, 0, none⟩), .int .i64 ep] W fun e w' => ∃ (j : Int) (k : Nat), e = .returned (.tuple #[.int .i64 j, .int .i64 (k : Int)]) ∧ UB D a w FX0 X0 q1 q2 g p bm dev n N u ub r x w' := by
  obtain ⟨F, p0, va, vp, vi, rs, hr, hG⟩ := h.else'.2.2
  refine (rseal_any hr hok.small ep).mono ?_
  rintro e w' ⟨k, he, hk, _, G', S', g1, g2, g3, g4⟩
  obtain ⟨k1, k2⟩ := UE.step3 hD hX h hs g1 (fun k e => (g2 k e).imp (hG k).1 id) g3 (g4.mono (fun k _ e => (hG k).1 e))
  rw [hub] at k1
  exact ⟨_, _, by rw [he, hk], _, _, _, _, k1, k2⟩
end
end Go.Proofs.YtcpanaokfbojnaaGreatDoor

/- UnitPower: the law, walked: behind a loss of power all that was answered is there. -/
namespace Go.Proofs.YtcpanaokfbojnaaGreatDoor
open Go Go.RowKit Go.Shelf Tide

section
variable {D : DvP} {a : Nat → Addr} {w : World}
set_option maxRecDepth 100000 in
set_option maxHeartbeats 8000000 in
theorem unitPower_law (hD : DvSpec (three a) D) (hE0 : Errs w a) (nn : Int) (v : Value) (ks : List ActU) (hk : ActsU w w.heap.size v ks) (hcap : ∀ A n c, v = .slice A n c → n ≤ c) (af : Int) (haf : af ≤ 9223372036854775807) (kv torn cut : Int) :
    Calls Tryz.prog 4 #[.int .i64 nn, v, .agg #[.int .i64 af, .int .u64 kv, .int .i64 torn, .int .i64 cut]] w fun en w' => en = .returned (.bool true) ∧ Below w.heap.size w w' := by
  obtain ⟨Av, cv, rfl, _, hcell⟩ := hk.form
  have hLc := hcap _ _ _ rfl
  obtain ⟨lossO, hlo⟩ : ∃ o, o = Obj.cells #[.int .i64 af, .int .u64 kv, .int .i64 torn, .int .i64 cut] 41 := ⟨_, rfl⟩
  have hb0 := (Below.refl w.heap.size w).alloc (Nat.le_refl _) lossO
  have HB0 := Lib.hid hb0
  have HE := Lib.hid (hE0.below hb0)
  have CA := Lib.hid (ualive_any hD HE.out)
  have HD := Lib.hid hD
  have hnew : (w.alloc lossO).heap[w.heap.size]? = some (.cells #[.int .i64 af, .int .u64 kv, .int .i64 torn, .int .i64 cut] 41 (0, 0)) := by rw [hlo]; exact heap_alloc_new w _
  have hsz : (w.alloc lossO).heap.size = w.heap.size + 1 := World.size_alloc _ _
  have HL5 := Lib.hid (fun (W : World) (hb : Below (w.alloc lossO).heap.size (w.alloc lossO) W) => (show W.cell? ⟨w.heap.size, 0, none⟩ = some (.int .i64 af) ∧ W.cell? ⟨w.heap.size, 1, none⟩ = some (.int .u64 kv) ∧ W.cell? ⟨w.heap.size, 2, none⟩ = some (.int .i64 torn) ∧ W.cell? ⟨w.heap.size, 3, none⟩ = some (.int .i64 cut) from by
    have h := (hb.block w.heap.size (by omega)).trans hnew
    exact ⟨by rw [cell_of_row _ _ 0 _ _ _ h]; rfl, by rw [cell_of_row _ _ 1 _ _ _ h]; rfl, by rw [cell_of_row _ _ 2 _ _ _ h]; rfl, by rw [cell_of_row _ _ 3 _ _ _ h]; rfl⟩))
  have HC := Lib.hid (fun i hi (W : World) (hb : Below (w.alloc lossO).heap.size (w.alloc lossO) W) => show ∃ b o, Av = some ⟨b, o, none⟩ ∧ W.cell? ⟨b, o + i * 5, none⟩ = some (.int .i64 ks[i].kind) ∧ W.cell? ⟨b, o + i * 5 + 1, none⟩ = some (.int .i64 ks[i].epoch) ∧ W.cell? ⟨b, o + i * 5 + 2, none⟩ = some (.int .i64 ks[i].adr) ∧ W.cell? ⟨b, o + i * 5 + 3, none⟩ = some (.int .i64 ks[i].len) ∧ W.cell? ⟨b, o + i * 5 + 4, none⟩ = some (.int .u8 (ks[i].byte.toNat : Int)) from by
    obtain ⟨b, o, e, hlt, c0, c1, c2, c3, c4⟩ := hcell i hi
    have hc := below_cells (HB0.out.trans (hb.mono HB0.out.size))
    exact ⟨b, o, e, (hc _ _ hlt).trans c0, (hc _ _ hlt).trans c1, (hc _ _ hlt).trans c2, (hc _ _ hlt).trans c3, (hc _ _ hlt).trans c4⟩)
  have HAF := Lib.hid haf
  have HLO := Lib.hid hlo
  clear hk hcell hb0 hnew hsz haf hE0 hcap hD
  by_cases h1 : 40 < ks.length
  · have q1 : decide ((40 : Int) < (ks.length : Int)) = true := decide_eq_true (by omega)
    clear h1 hLc
    go_enter Tryz.func4, Tryz.ntmps4
    go_wp2_with fail
    rw [← hlo]
    clear hlo
    refine CA.out.mono ?_
    rintro en w1 ⟨rfl, hb⟩
    have HB := Lib.hid (HB0.out.trans (hb.mono HB0.out.size))
    clear hb
    go_wp2_with fail
    go_ret
    exact ⟨rfl, HB.out⟩
  have q1 : decide ((40 : Int) < (ks.length : Int)) = false := decide_eq_false (by omega)
  by_cases h2 : ks.length = 0
  · have q2 : ((ks.length : Int) == 0) = true := by rw [h2]; rfl
    clear h1 hLc
    go_enter Tryz.func4, Tryz.ntmps4
    go_wp2_with fail
    rw [← hlo]
    clear hlo
    refine CA.out.mono ?_
    rintro en w1 ⟨rfl, hb⟩
    have HB := Lib.hid (HB0.out.trans (hb.mono HB0.out.size))
    clear hb
    go_wp2_with fail
    go_ret
    exact ⟨rfl, HB.out⟩
  obtain ⟨L, hL⟩ : ∃ L, ks.length = L + 1 := ⟨ks.length - 1, by omega⟩
  have HL := Lib.hid hL
  have hL40 : L ≤ 39 := by omega
  have q2 : ((ks.length : Int) == 0) = false := beq_eq_false_iff_ne.2 (by omega)
  have hLcv : L ≤ cv := by omega
  have e1 : (ks.length : Int) - 1 = (L : Int) := by omega
  have i9 : (L : Int) < (ks.length : Int) := by omega
  have HLs := Lib.hid (show wrap64 ((ks.length : Int) - 1) = (L : Int) ∧ IntKind.i64.wrap ((ks.length : Int) - 1) = (L : Int) from ⟨by rw [e1]; unfold wrap64; omega, by rw [e1]; simp [IntKind.wrap, IntKind.signed, IntKind.bits]; omega⟩)
  clear h1 h2 hLc hL
  go_enter Tryz.func4, Tryz.ntmps4
  go_wp2_with fail
  rw [← hlo]
  clear hlo
  refine CA.out.mono ?_
  rintro en w1 ⟨rfl, hb1⟩
  have CB := Lib.hid (ubegin_any HD.out HE.out w1 hb1 nn)
  clear hb1 CA
  go_wp2_with fail
  refine CB.out.mono ?_
  rintro en w2 ⟨k, dev, g, p, bm, w3, hk1, hk2, rfl, rfl, hU⟩
  obtain ⟨n, hn⟩ : ∃ n, 64 * k = n := ⟨_, rfl⟩
  rw [hn] at hU
  have HNn := Lib.hid (show 64 ≤ n ∧ n ≤ 1000 by omega)
  have U0 := Lib.hid (UR.new HD.out hU)
  generalize refNew w3 k = w4 at *
  generalize (⟨⟨k, []⟩, [], 0, 0, 0⟩ : UnitD) = u0 at *
  generalize w3.heap.size + 1 = q at *
  clear hU hn hk1 hk2 CB
  obtain ⟨b, o, rfl, c0, c1, c2, c3, c4⟩ := HC.out L (by rw [HL.out]; omega) w4 U0.out.since
  obtain ⟨x, hx⟩ : ∃ x : ActU, x = ks[L]'(by rw [HL.out]; omega) := ⟨_, rfl⟩
  rw [← hx] at c0 c1 c2 c3 c4
  clear hx
  obtain ⟨bb, hbb⟩ : ∃ bb, bb = w4.heap.size := ⟨_, rfl⟩
  have U1 := U0.out.box HD.out stays_none (.cells x.cells 30)
  have HX := Lib.hid (stays_none.box w4.heap.size (.cells x.cells 30))
  rw [← hbb] at U1 HX
  have U1 := Lib.hid U1
  have hcut := cut_acts b o ks.length cv L hLcv
  have HBBw := Lib.hid hbb
  obtain ⟨hs1, hs2⟩ := HLs.out
  clear U0
  obtain ⟨w5, hw5⟩ : ∃ w5, w4.alloc (.cells #[.int .i64 x.kind, .int .i64 x.epoch, .int .i64 x.adr, .int .i64 x.len, .int .u8 (x.byte.toNat : Int)] 30) = w5 := ⟨_, rfl⟩
  have U1 := Lib.hid (show UR D (w.alloc lossO) (fun k => False ∨ k = bb) (fun Y => True ∧ Y.heap[bb]? = some (.cells x.cells 30 (0, 0))) dev n 0 u0 u0 g q w5 from by rw [← hw5]; exact U1.out)
  go_wp2_with fail
  rw [← hbb]
  clear c0 c1 c2 c3 c4 hs1 hs2 hw5 hbb
  go_loopw [52, 8] (fun i s8 wr => ∃ (k g : Nat) (u : UnitD), i = .int .i64 (k : Int) ∧ s8 = .pointer (some ⟨g, 0, none⟩) ∧ k ≤ L ∧ Hid (UR D (w.alloc lossO) (fun k => False ∨ k = bb) (fun Y => True ∧ Y.heap[bb]? = some (.cells x.cells 30 (0, 0))) dev n k u u g q wr)) (fun i _ _ => L - (intOf i).toNat)
  case atStart => exact ⟨0, g, u0, rfl, rfl, Nat.zero_le _, U1⟩
  case round =>
    clear U1
    obtain ⟨k, g, u, rfl, rfl, hk, hU⟩ := hrel
    by_cases hlt : k < L
    · have i1 : (k : Int) < (L : Int) := by omega
      obtain ⟨b', o', hA, c0, c1, c2, c3, c4⟩ := HC.out k (by rw [HL.out]; omega) wr hU.out.since
      injection hA with hA
      injection hA with hA1 hA2
      subst hA1 hA2
      obtain ⟨y, hy⟩ : ∃ y : ActU, y = ks[k]'(by rw [HL.out]; omega) := ⟨_, rfl⟩
      rw [← hy] at c0 c1 c2 c3 c4
      obtain ⟨w6, hw6⟩ : ∃ w6, wr.alloc (.cells #[.int .i64 y.kind, .int .i64 y.epoch, .int .i64 y.adr, .int .i64 y.len, .int .u8 (y.byte.toNat : Int)] 30) = w6 := ⟨_, rfl⟩
      have hb6 : Below wr.heap.size wr w6 := by rw [← hw6]; exact (Below.refl _ _).alloc (Nat.le_refl _) _
      have hbx : w6.heap[wr.heap.size]? = some (.cells y.cells 30 (0, 0)) := by rw [← hw6]; exact heap_alloc_new _ _
      have U6 := Lib.hid (hU.out.below HD.out HX.out hb6)
      have CD := Lib.hid (udo_gen HD.out HX.out HE.out HNn.out (by omega) U6.out y)
      have hlt6 : wr.heap.size < w6.heap.size := (Array.getElem?_eq_some_iff.1 hbx).1
      have y0 : w6.cell? ⟨wr.heap.size, 0, none⟩ = some (.int .i64 y.kind) := by rw [cell_of_row _ _ 0 _ _ _ hbx]; rfl
      have y1 : w6.cell? ⟨wr.heap.size, 1, none⟩ = some (.int .i64 y.epoch) := by rw [cell_of_row _ _ 1 _ _ _ hbx]; rfl
      have y2 : w6.cell? ⟨wr.heap.size, 2, none⟩ = some (.int .i64 y.adr) := by rw [cell_of_row _ _ 2 _ _ _ hbx]; rfl
      have y3 : w6.cell? ⟨wr.heap.size, 3, none⟩ = some (.int .i64 y.len) := by rw [cell_of_row _ _ 3 _ _ _ hbx]; rfl
      have y4 : w6.cell? ⟨wr.heap.size, 4, none⟩ = some (.int .u8 (y.byte.toNat : Int)) := by rw [cell_of_row _ _ 4 _ _ _ hbx]; rfl
      clear hy hU hb6 hbx
      go_wp2_with fail
      refine CD.out.mono ?_
      rintro en w7 ⟨g', rfl, hU7⟩
      have U7 := Lib.hid hU7
      clear hU7 CD y0 y1 y2 y3 y4 c0 c1 c2 c3 c4 hw6 hlt6 U6
      go_wp2_with fail
      go_roundw
      case rel => exact ⟨k + 1, g', _, by go_num, rfl, by omega, U7⟩
      case measure => simp [intOf]; omega
    · have hk9 : k ≤ 40 := by omega
      have hok := hU.out.okR HNn.out.2 (by omega)
      have HOK := Lib.hid hok
      have CC := Lib.hid (hU.out.copy3 HD.out HX.out hok)
      have hsh0 : ShortU u := hok.bytes
      have HSU := Lib.hid hsh0
      have HKx := Lib.hid (fun (Y : World) (hY : True ∧ Y.heap[bb]? = some (.cells x.cells 30 (0, 0))) => show bb < Y.heap.size ∧ Y.cell? ⟨bb, 0, none⟩ = some (.int .i64 x.kind) ∧ Y.cell? ⟨bb, 1, none⟩ = some (.int .i64 x.epoch) ∧ Y.cell? ⟨bb, 2, none⟩ = some (.int .i64 x.adr) ∧ Y.cell? ⟨bb, 3, none⟩ = some (.int .i64 x.len) ∧ Y.cell? ⟨bb, 4, none⟩ = some (.int .u8 (x.byte.toNat : Int)) from
        ⟨(Array.getElem?_eq_some_iff.1 hY.2).1, by rw [cell_of_row _ _ 0 _ _ _ hY.2]; rfl, by rw [cell_of_row _ _ 1 _ _ _ hY.2]; rfl, by rw [cell_of_row _ _ 2 _ _ _ hY.2]; rfl, by rw [cell_of_row _ _ 3 _ _ _ hY.2]; rfl, by rw [cell_of_row _ _ 4 _ _ _ hY.2]; rfl⟩)
      clear hU hok hsh0
      go_wp2_with fail
      refine CC.out.mono ?_
      rintro en w6 ⟨q2, p6, bm6, G1, S1, G2, S2, rfl, hU6, hS6⟩
      have CSt := Lib.hid (hU6.stop3 HD.out (stays3 HX.out) af HAF.out)
      obtain ⟨l0, l1, l2, l3⟩ := HL5.out _ hU6.since
      have hlw := (HB0.out.trans (hU6.since.mono HB0.out.size)).size
      have HS6 := Lib.hid hS6
      clear hU6 hS6 CC
      go_wp2_with fail
      refine CSt.out.mono ?_
      rintro en w7 ⟨rfl, hM7⟩
      have M7 := Lib.hid hM7
      obtain ⟨hbl, d0, d1, d2, d3, d4⟩ := HKx.out _ hM7.else'.1
      clear hM7 CSt l0 l1 l2 l3 hlw
      by_cases hk0 : x.kind = 0
      · have q3 : (x.kind == 0) = true := beq_iff_eq.2 hk0
        obtain ⟨ub, hub⟩ : ∃ ub, (writeD u x.epoch x.adr x.page).1 = ub := ⟨_, rfl⟩
        obtain ⟨r, hr⟩ : ∃ r, (writeD u x.epoch x.adr x.page).2 = r := ⟨_, rfl⟩
        have HSame := Lib.hid (show r ≠ 0 → ub = u from fun h => by rw [← hub]; exact write_same (by rw [hr]; exact h))
        have hsh : ShortU u ∧ ShortU ub := ⟨HSU.out, by rw [← hub]; exact short_write HSU.out⟩
        have CP := Lib.hid (fun Y => page_any x Y)
        have CW := (fun (Y : World) (vb : Value) (hY : UM D (w.alloc lossO) (FX3 (fun k => False ∨ k = bb) G1 S1 G2 S2) (X3 (fun Y => True ∧ Y.heap[bb]? = some (.cells x.cells 30 (0, 0))) G1 S1 G2 S2 q q2 u u) g p6 bm6 dev n k u Y) (hv : Bytes Y Y.heap.size vb x.page) => hY.write HD.out (stays3 HX.out) HE.out HNn.out.2 (by omega) x.epoch x.adr vb x.page hv)
        rw [hub, hr] at CW
        have CW := Lib.hid CW
        have CRw := Lib.hid (fun (Y Y' : World) (vb x9 : Value) (hY : UE D a (w.alloc lossO) (FX3 (fun k => False ∨ k = bb) G1 S1 G2 S2) (X3 (fun Y => True ∧ Y.heap[bb]? = some (.cells x.cells 30 (0, 0))) G1 S1 G2 S2 q q2 u u) g p6 bm6 dev n k u ub r x9 Y) (hb : Below Y.heap.size Y Y') (hv : Y'.ownsRow Y.heap.size 5 1 vb x.page.length (u8s x.page)) => hY.rwrite HD.out HX.out HOK.out HS6.out hb x.epoch x.adr vb x.page hv hub)
        have HPl := Lib.hid (x.page_len)
        have HMb := Lib.hid (fun (Y : World) (hb : Below w7.heap.size w7 Y) => M7.out.below HD.out (stays3 HX.out) hb)
        have HK5 := Lib.hid (fun (Y : World) (hY : True ∧ Y.heap[bb]? = some (.cells x.cells 30 (0, 0))) => (HKx.out Y hY).2)
        have D7 := Lib.hid (HK5.out w7.drew (HMb.out _ (Below.refl _ _).drew).else'.1)
        clear hub hr hk0 M7
        go_wp2_with fail
        go_region_held3 (fun Y => Y.cell? ⟨bb, 0, none⟩ = some (.int .i64 x.kind) ∧ Y.cell? ⟨bb, 1, none⟩ = some (.int .i64 x.epoch) ∧ Y.cell? ⟨bb, 2, none⟩ = some (.int .i64 x.adr) ∧ Y.cell? ⟨bb, 3, none⟩ = some (.int .i64 x.len) ∧ Y.cell? ⟨bb, 4, none⟩ = some (.int .u8 (x.byte.toNat : Int)))
          (first | exact D7.out | exact D8.out | exact D9.out | assumption)
          (first
            | (go_at_call 14; (with_reducible refine (CP.out _).mono ?_); rintro en w8 ⟨vp, rfl, hvp, hb8⟩; have M8 := Lib.hid (HMb.out _ (((Below.refl w7.heap.size w7).drew).trans (hb8.mono (Nat.le_refl _)))); have D8 := Lib.hid (HK5.out _ M8.out.else'.1); have V8 := Lib.hid (Bytes.of_own hvp); clear hvp hb8)
            | (go_at_call 13; (with_reducible refine (CW.out _ _ M8.out V8.out).mono ?_); rintro en w9 ⟨x9, rfl, hE9⟩; have E9 := Lib.hid hE9; have D9 := Lib.hid (HK5.out _ hE9.else'.1); clear hE9))
        rename_i hh
        clear hh D7 D8 D9 V8 M8 CW HMb d0 d1 d2 d3 d4 hbl
        have hbl := (HKx.out _ E9.out.else'.1).1
        have E10 := Lib.hid (E9.out.below HD.out (stays3 HX.out) ((Below.refl w9.heap.size w9).drew))
        have D10 := Lib.hid (HK5.out _ E10.out.else'.1)
        go_wp2_with fail
        go_region_held3 (fun Y => Y.cell? ⟨bb, 0, none⟩ = some (.int .i64 x.kind) ∧ Y.cell? ⟨bb, 1, none⟩ = some (.int .i64 x.epoch) ∧ Y.cell? ⟨bb, 2, none⟩ = some (.int .i64 x.adr) ∧ Y.cell? ⟨bb, 3, none⟩ = some (.int .i64 x.len) ∧ Y.cell? ⟨bb, 4, none⟩ = some (.int .u8 (x.byte.toNat : Int)))
          (first | exact D10.out | exact D11.out | exact D12.out | assumption)
          (first
            | (go_at_call 14; (with_reducible refine (CP.out _).mono ?_); rintro en w11 ⟨vq, rfl, hvq, hb11⟩; have HB11 := Lib.hid hb11; have D11 := Lib.hid (HK5.out _ (E10.out.below HD.out (stays3 HX.out) hb11).else'.1); have V11 := Lib.hid (show World.ownsRow _ _ _ _ _ x.page.length _ from HPl.out ▸ hvq); clear hvq hb11)
            | (go_at_call 15; (with_reducible refine (CRw.out _ _ _ _ E10.out HB11.out V11.out).mono ?_); rintro en w12 ⟨k12, rfl, hB12⟩; have HB12 := Lib.hid hB12; have D12 := Lib.hid (HK5.out _ (by obtain ⟨_, _, _, _, h9, _⟩ := hB12; exact h9.else'.1)); clear hB12))
        rename_i hh
        have hB := HB12.out
        clear hh D10 D11 D12 V11 HB11 HB12 E9 E10 CRw CP HK5 hbl
        obtain ⟨H1, T1, H2, T2, hE3, hS3⟩ := hB
        have CCr := Lib.hid (hE3.crash HD.out (stays3 HX.out) kv torn cut)
        have h5 := HL5.out _ hE3.since
        obtain ⟨l0, l1, l2, l3⟩ := h5
        have HSh := Lib.hid hsh
        clear hE3 hS3 hsh
        go_wp2_with fail
        refine CCr.out.mono ?_
        rintro en wc ⟨rfl, v9, hO, hEnd⟩
        have CO := Lib.hid (hO.open HD.out (stays3 HX.out) HE.out HNn.out.1 HNn.out.2 (by omega))
        have HEnd := Lib.hid hEnd
        clear hO hEnd CCr l0 l1 l2 l3
        go_wp2_with fail
        refine CO.out.mono ?_
        rintro en wo ⟨g9, p9, bm9, rfl, hU9⟩
        have U9 := Lib.hid hU9
        have CT1 := Lib.hid (fun (Y : World) (hY : UL D (w.alloc lossO) (FX3 (fun k => False ∨ k = bb) H1 T1 H2 T2) (X3 (fun Y => True ∧ Y.heap[bb]? = some (.cells x.cells 30 (0, 0))) H1 T1 H2 T2 q q2 u ub) g9 p9 bm9 dev n (k + 1) v9 Y) => told_any HD.out (stays3 HX.out) HE.out (by omega) HSh.out.1 (fun Y h => ⟨H1, T1, h.2.1⟩) hY)
        have CT2 := Lib.hid (fun (Y : World) (hY : UL D (w.alloc lossO) (FX3 (fun k => False ∨ k = bb) H1 T1 H2 T2) (X3 (fun Y => True ∧ Y.heap[bb]? = some (.cells x.cells 30 (0, 0))) H1 T1 H2 T2 q q2 u ub) g9 p9 bm9 dev n (k + 1) v9 Y) => told_any HD.out (stays3 HX.out) HE.out (by omega) HSh.out.2 (fun Y h => ⟨H2, T2, h.2.2⟩) hY)
        clear hU9 CO
        rcases HEnd.out with ⟨hv, hx⟩ | ⟨hx, m9, hv⟩
        · rcases hx with ⟨hr0, rfl⟩ | ⟨j, hj, hr0, rfl⟩
          · have heq := eql_nilU
            have CT := Lib.hid (CT2.out _ U9.out)
            have HA := Lib.hid (show Agree v9 ub from by rw [hv]; exact agree_refl _)
            clear CT1 CT2 hr0
            go_wp2_with fail
            refine CT.out.mono ?_
            rintro en wt ⟨b, rfl, hb, hU⟩
            obtain rfl : b = true := hb HA.out
            have HB := Lib.hid (HB0.out.trans (hU.since.mono HB0.out.size))
            clear hU CT hb
            go_wp2_with fail
            go_ret
            exact ⟨rfl, HB.out⟩
          · have heq := eql_errU (a j)
            have CT := Lib.hid (CT1.out _ U9.out)
            have HA := Lib.hid (show Agree v9 u from by rw [hv, HSame.out (by omega)]; exact agree_refl _)
            clear CT1 CT2 hr0
            go_wp2_with fail
            refine CT.out.mono ?_
            rintro en wt ⟨b, rfl, hb, hU⟩
            obtain rfl : b = true := hb HA.out
            have HB := Lib.hid (HB0.out.trans (hU.since.mono HB0.out.size))
            clear hU CT hb
            go_wp2_with fail
            go_ret
            exact ⟨rfl, HB.out⟩
        · obtain rfl : x9 = errAt (a 11) := by
            rcases hx with ⟨h, _⟩ | ⟨j, hj, h, h2⟩
            · omega
            · obtain rfl : j = 11 := by omega
              exact h2
          have heq := eql_errU (a 11)
          have CT := Lib.hid (CT1.out _ U9.out)
          have HV := Lib.hid hv
          clear CT1 hv hx
          go_wp2_with fail
          refine CT.out.mono ?_
          rintro en wt ⟨b, rfl, hb, hU⟩
          have UT := Lib.hid hU
          have HBB := Lib.hid hb
          clear hU CT hb
          cases b with
          | true =>
            have HB := Lib.hid (HB0.out.trans (UT.out.since.mono HB0.out.size))
            go_wp2_with fail
            go_ret
            exact ⟨rfl, HB.out⟩
          | false =>
            have HA := Lib.hid (show Agree v9 ub from by
              rcases HV.out with h | h
              · have h9 := HBB.out (by rw [h]; exact agree_store u m9)
                cases h9
              · rw [h]; exact agree_store _ m9)
            have CM := Lib.hid (num_any a (errAt (a 11)) 12 wt (HE.out.below UT.out.since) (isErr_at a 11 (by omega)))
            go_wp2_with fail
            refine CM.out.mono ?_
            rintro en wn ⟨rfl, hbn⟩
            have CT := Lib.hid (CT2.out _ (UT.out.below HD.out (stays3 HX.out) hbn))
            clear CM hbn CT2
            go_wp2_with fail
            refine CT.out.mono ?_
            rintro en wz ⟨b, rfl, hb, hU⟩
            obtain rfl : b = true := hb HA.out
            have HB := Lib.hid (HB0.out.trans (hU.since.mono HB0.out.size))
            clear hU CT hb
            go_wp2_with fail
            go_ret
            exact ⟨rfl, HB.out⟩
      have q3 : (x.kind == 0) = false := beq_eq_false_iff_ne.2 hk0
      by_cases hk2 : x.kind = 2
      · have q4 : (x.kind == 2) = true := beq_iff_eq.2 hk2
        obtain ⟨ub, hub⟩ : ∃ ub, (trimD u x.epoch x.adr).1 = ub := ⟨_, rfl⟩
        obtain ⟨r, hr⟩ : ∃ r, (trimD u x.epoch x.adr).2 = r := ⟨_, rfl⟩
        have HSame := Lib.hid (show r ≠ 0 → ub = u from fun h => by rw [← hub]; exact trim_same (by rw [hr]; exact h))
        have CW := M7.out.trim HD.out (stays3 HX.out) HE.out HNn.out.2 (by omega) x.epoch x.adr
        have hsh : ShortU u ∧ ShortU ub := ⟨HSU.out, by rw [← hub]; exact short_trim HSU.out⟩
        rw [hub, hr] at CW
        have CW := Lib.hid CW
        have HUB := Lib.hid hub
        clear hub hr hk0 hk2 M7
        go_wp2_with fail
        refine CW.out.mono ?_
        rintro en w8 ⟨x9, rfl, hE8⟩
        have CR := Lib.hid (hE8.rtrim HD.out HX.out HOK.out HS6.out x.epoch x.adr HUB.out)
        obtain ⟨hbl, d0, d1, d2, d3, d4⟩ := HKx.out _ hE8.else'.1
        clear hE8 CW
        go_wp2_with fail
        refine CR.out.mono ?_
        rintro en w9 ⟨k9, rfl, hB⟩
        clear CR
        obtain ⟨H1, T1, H2, T2, hE3, hS3⟩ := hB
        have CCr := Lib.hid (hE3.crash HD.out (stays3 HX.out) kv torn cut)
        have h5 := HL5.out _ hE3.since
        obtain ⟨l0, l1, l2, l3⟩ := h5
        have HSh := Lib.hid hsh
        clear hE3 hS3 hsh
        go_wp2_with fail
        refine CCr.out.mono ?_
        rintro en wc ⟨rfl, v9, hO, hEnd⟩
        have CO := Lib.hid (hO.open HD.out (stays3 HX.out) HE.out HNn.out.1 HNn.out.2 (by omega))
        have HEnd := Lib.hid hEnd
        clear hO hEnd CCr l0 l1 l2 l3
        go_wp2_with fail
        refine CO.out.mono ?_
        rintro en wo ⟨g9, p9, bm9, rfl, hU9⟩
        have U9 := Lib.hid hU9
        have CT1 := Lib.hid (fun (Y : World) (hY : UL D (w.alloc lossO) (FX3 (fun k => False ∨ k = bb) H1 T1 H2 T2) (X3 (fun Y => True ∧ Y.heap[bb]? = some (.cells x.cells 30 (0, 0))) H1 T1 H2 T2 q q2 u ub) g9 p9 bm9 dev n (k + 1) v9 Y) => told_any HD.out (stays3 HX.out) HE.out (by omega) HSh.out.1 (fun Y h => ⟨H1, T1, h.2.1⟩) hY)
        have CT2 := Lib.hid (fun (Y : World) (hY : UL D (w.alloc lossO) (FX3 (fun k => False ∨ k = bb) H1 T1 H2 T2) (X3 (fun Y => True ∧ Y.heap[bb]? = some (.cells x.cells 30 (0, 0))) H1 T1 H2 T2 q q2 u ub) g9 p9 bm9 dev n (k + 1) v9 Y) => told_any HD.out (stays3 HX.out) HE.out (by omega) HSh.out.2 (fun Y h => ⟨H2, T2, h.2.2⟩) hY)
        clear hU9 CO
        rcases HEnd.out with ⟨hv, hx⟩ | ⟨hx, m9, hv⟩
        · rcases hx with ⟨hr0, rfl⟩ | ⟨j, hj, hr0, rfl⟩
          · have heq := eql_nilU
            have CT := Lib.hid (CT2.out _ U9.out)
            have HA := Lib.hid (show Agree v9 ub from by rw [hv]; exact agree_refl _)
            clear CT1 CT2 hr0
            go_wp2_with fail
            refine CT.out.mono ?_
            rintro en wt ⟨b, rfl, hb, hU⟩
            obtain rfl : b = true := hb HA.out
            have HB := Lib.hid (HB0.out.trans (hU.since.mono HB0.out.size))
            clear hU CT hb
            go_wp2_with fail
            go_ret
            exact ⟨rfl, HB.out⟩
          · have heq := eql_errU (a j)
            have CT := Lib.hid (CT1.out _ U9.out)
            have HA := Lib.hid (show Agree v9 u from by rw [hv, HSame.out (by omega)]; exact agree_refl _)
            clear CT1 CT2 hr0
            go_wp2_with fail
            refine CT.out.mono ?_
            rintro en wt ⟨b, rfl, hb, hU⟩
            obtain rfl : b = true := hb HA.out
            have HB := Lib.hid (HB0.out.trans (hU.since.mono HB0.out.size))
            clear hU CT hb
            go_wp2_with fail
            go_ret
            exact ⟨rfl, HB.out⟩
        · obtain rfl : x9 = errAt (a 11) := by
            rcases hx with ⟨h, _⟩ | ⟨j, hj, h, h2⟩
            · omega
            · obtain rfl : j = 11 := by omega
              exact h2
          have heq := eql_errU (a 11)
          have CT := Lib.hid (CT1.out _ U9.out)
          have HV := Lib.hid hv
          clear CT1 hv hx
          go_wp2_with fail
          refine CT.out.mono ?_
          rintro en wt ⟨b, rfl, hb, hU⟩
          have UT := Lib.hid hU
          have HBB := Lib.hid hb
          clear hU CT hb
          cases b with
          | true =>
            have HB := Lib.hid (HB0.out.trans (UT.out.since.mono HB0.out.size))
            go_wp2_with fail
            go_ret
            exact ⟨rfl, HB.out⟩
          | false =>
            have HA := Lib.hid (show Agree v9 ub from by
              rcases HV.out with h | h
              · have h9 := HBB.out (by rw [h]; exact agree_store u m9)
                cases h9
              · rw [h]; exact agree_store _ m9)
            have CM := Lib.hid (num_any a (errAt (a 11)) 12 wt (HE.out.below UT.out.since) (isErr_at a 11 (by omega)))
            go_wp2_with fail
            refine CM.out.mono ?_
            rintro en wn ⟨rfl, hbn⟩
            have CT := Lib.hid (CT2.out _ (UT.out.below HD.out (stays3 HX.out) hbn))
            clear CM hbn CT2
            go_wp2_with fail
            refine CT.out.mono ?_
            rintro en wz ⟨b, rfl, hb, hU⟩
            obtain rfl : b = true := hb HA.out
            have HB := Lib.hid (HB0.out.trans (hU.since.mono HB0.out.size))
            clear hU CT hb
            go_wp2_with fail
            go_ret
            exact ⟨rfl, HB.out⟩
      · have q4 : (x.kind == 2) = false := beq_eq_false_iff_ne.2 hk2
        obtain ⟨ub, hub⟩ : ∃ ub, (sealD u x.epoch).1 = ub := ⟨_, rfl⟩
        obtain ⟨r, hr⟩ : ∃ r, (sealD u x.epoch).2.2 = r := ⟨_, rfl⟩
        have HSame := Lib.hid (show r ≠ 0 → ub = u from fun h => by rw [← hub]; exact seal_same (by rw [hr]; exact h))
        have CW := M7.out.seal HD.out (stays3 HX.out) HE.out HNn.out.2 (by omega) x.epoch
        have hsh : ShortU u ∧ ShortU ub := ⟨HSU.out, by rw [← hub]; exact short_seal HSU.out⟩
        rw [hub, hr] at CW
        have CW := Lib.hid CW
        have HUB := Lib.hid hub
        clear hub hr hk0 hk2 M7
        go_wp2_with fail
        refine CW.out.mono ?_
        rintro en w8 ⟨k8, x9, rfl, hE8⟩
        have CR := Lib.hid (hE8.rseal HD.out HX.out HOK.out HS6.out x.epoch HUB.out)
        obtain ⟨hbl, d0, d1, d2, d3, d4⟩ := HKx.out _ hE8.else'.1
        clear hE8 CW
        go_wp2_with fail
        refine CR.out.mono ?_
        rintro en w9 ⟨j9, k9, rfl, hB⟩
        clear CR
        obtain ⟨H1, T1, H2, T2, hE3, hS3⟩ := hB
        have CCr := Lib.hid (hE3.crash HD.out (stays3 HX.out) kv torn cut)
        have h5 := HL5.out _ hE3.since
        obtain ⟨l0, l1, l2, l3⟩ := h5
        have HSh := Lib.hid hsh
        clear hE3 hS3 hsh
        go_wp2_with fail
        refine CCr.out.mono ?_
        rintro en wc ⟨rfl, v9, hO, hEnd⟩
        have CO := Lib.hid (hO.open HD.out (stays3 HX.out) HE.out HNn.out.1 HNn.out.2 (by omega))
        have HEnd := Lib.hid hEnd
        clear hO hEnd CCr l0 l1 l2 l3
        go_wp2_with fail
        refine CO.out.mono ?_
        rintro en wo ⟨g9, p9, bm9, rfl, hU9⟩
        have U9 := Lib.hid hU9
        have CT1 := Lib.hid (fun (Y : World) (hY : UL D (w.alloc lossO) (FX3 (fun k => False ∨ k = bb) H1 T1 H2 T2) (X3 (fun Y => True ∧ Y.heap[bb]? = some (.cells x.cells 30 (0, 0))) H1 T1 H2 T2 q q2 u ub) g9 p9 bm9 dev n (k + 1) v9 Y) => told_any HD.out (stays3 HX.out) HE.out (by omega) HSh.out.1 (fun Y h => ⟨H1, T1, h.2.1⟩) hY)
        have CT2 := Lib.hid (fun (Y : World) (hY : UL D (w.alloc lossO) (FX3 (fun k => False ∨ k = bb) H1 T1 H2 T2) (X3 (fun Y => True ∧ Y.heap[bb]? = some (.cells x.cells 30 (0, 0))) H1 T1 H2 T2 q q2 u ub) g9 p9 bm9 dev n (k + 1) v9 Y) => told_any HD.out (stays3 HX.out) HE.out (by omega) HSh.out.2 (fun Y h => ⟨H2, T2, h.2.2⟩) hY)
        clear hU9 CO
        rcases HEnd.out with ⟨hv, hx⟩ | ⟨hx, m9, hv⟩
        · rcases hx with ⟨hr0, rfl⟩ | ⟨j, hj, hr0, rfl⟩
          · have heq := eql_nilU
            have CT := Lib.hid (CT2.out _ U9.out)
            have HA := Lib.hid (show Agree v9 ub from by rw [hv]; exact agree_refl _)
            clear CT1 CT2 hr0
            go_wp2_with fail
            refine CT.out.mono ?_
            rintro en wt ⟨b, rfl, hb, hU⟩
            obtain rfl : b = true := hb HA.out
            have HB := Lib.hid (HB0.out.trans (hU.since.mono HB0.out.size))
            clear hU CT hb
            go_wp2_with fail
            go_ret
            exact ⟨rfl, HB.out⟩
          · have heq := eql_errU (a j)
            have CT := Lib.hid (CT1.out _ U9.out)
            have HA := Lib.hid (show Agree v9 u from by rw [hv, HSame.out (by omega)]; exact agree_refl _)
            clear CT1 CT2 hr0
            go_wp2_with fail
            refine CT.out.mono ?_
            rintro en wt ⟨b, rfl, hb, hU⟩
            obtain rfl : b = true := hb HA.out
            have HB := Lib.hid (HB0.out.trans (hU.since.mono HB0.out.size))
            clear hU CT hb
            go_wp2_with fail
            go_ret
            exact ⟨rfl, HB.out⟩
        · obtain rfl : x9 = errAt (a 11) := by
            rcases hx with ⟨h, _⟩ | ⟨j, hj, h, h2⟩
            · omega
            · obtain rfl : j = 11 := by omega
              exact h2
          have heq := eql_errU (a 11)
          have CT := Lib.hid (CT1.out _ U9.out)
          have HV := Lib.hid hv
          clear CT1 hv hx
          go_wp2_with fail
          refine CT.out.mono ?_
          rintro en wt ⟨b, rfl, hb, hU⟩
          have UT := Lib.hid hU
          have HBB := Lib.hid hb
          clear hU CT hb
          cases b with
          | true =>
            have HB := Lib.hid (HB0.out.trans (UT.out.since.mono HB0.out.size))
            go_wp2_with fail
            go_ret
            exact ⟨rfl, HB.out⟩
          | false =>
            have HA := Lib.hid (show Agree v9 ub from by
              rcases HV.out with h | h
              · have h9 := HBB.out (by rw [h]; exact agree_store u m9)
                cases h9
              · rw [h]; exact agree_store _ m9)
            have CM := Lib.hid (num_any a (errAt (a 11)) 12 wt (HE.out.below UT.out.since) (isErr_at a 11 (by omega)))
            go_wp2_with fail
            refine CM.out.mono ?_
            rintro en wn ⟨rfl, hbn⟩
            have CT := Lib.hid (CT2.out _ (UT.out.below HD.out (stays3 HX.out) hbn))
            clear CM hbn CT2
            go_wp2_with fail
            refine CT.out.mono ?_
            rintro en wz ⟨b, rfl, hb, hU⟩
            obtain rfl : b = true := hb HA.out
            have HB := Lib.hid (HB0.out.trans (hU.since.mono HB0.out.size))
            clear hU CT hb
            go_wp2_with fail
            go_ret
            exact ⟨rfl, HB.out⟩
end
end Go.Proofs.YtcpanaokfbojnaaGreatDoor
