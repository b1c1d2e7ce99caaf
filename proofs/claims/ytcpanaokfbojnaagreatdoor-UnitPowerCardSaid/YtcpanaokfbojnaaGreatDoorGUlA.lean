/- The laws of a unit: the chapter's example; an act's page. -/
import Derived.Test.YtcpanaokfbojnaaGreatDoorGUiG
import Derived.Test.YtcpanaokfbojnaaGreatDoorGErr
import Derived.Test.YtcpanaokfbojnaaGreatDoorGStO
import Derived.Test.YtcpanaokfbojnaaGreatDoorGUmod
import Derived.Test.YtcpanaokfbojnaaGreatDoorGSgA
import Derived.Test.YtcpanaokfbojnaaGreatDoorGMem
import Derived.Test.YtcpanaokfbojnaaGreatDoorGKeep
import Derived.Lib.SlBytesConst
import Derived.Deep.RegionLaw
namespace Go.Proofs.YtcpanaokfbojnaaGreatDoor
open Go Go.RowKit Go.Shelf Tide

section
variable {D : DvP} {a : Nat → Addr} {w W : World}
theorem stays_none : Stays (fun _ => False) (fun _ => True) := fun _ _ _ _ _ _ _ => trivial
def unit0 : UnitD := ⟨⟨1, []⟩, [], 0, 0, 0⟩
set_option maxRecDepth 100000 in
set_option maxHeartbeats 4000000 in
theorem ualive_any (hD : DvSpec (three a) D) (hE : Errs w a) : Calls Tryz.prog 6 #[] w fun e w' => e = .returned (.bool true) ∧ Below w.heap.size w w' := by
  have kc := fun (w : World) (C : Array Value) (n c : Nat) => Lib.run_convert_bytes_const (P := Tryz.prog) w 45 5 C n c Tryz.underlying45 Tryz.underlying5
  have CN := Lib.hid (show Calls Tryz.prog 26 #[.int .i64 64] w fun e w' => ∃ dev, e = .returned (.tuple #[.pointer (some ⟨dev, 0, none⟩), .nilIface]) ∧ UO D w (fun _ => False) (fun _ => True) dev 64 0 unit0 w' from UO.new hD stays_none trivial (fun _ h => h.elim) (Below.refl _ _) 1 (by omega) (by omega))
  have HD := Lib.hid hD
  have HE := Lib.hid hE
  clear hD hE
  go_enter Tryz.func6, Tryz.ntmps6
  go_wp2_with fail
  refine CN.out.mono ?_
  rintro en w1 ⟨dev, rfl, hd⟩
  have CO := Lib.hid (hd.open HD.out stays_none HE.out (by omega) (by omega) (by omega))
  clear CN hd
  go_wp2_with fail
  refine CO.out.mono ?_
  rintro en w2 ⟨g, p, bm, rfl, hs⟩
  have HS := Lib.hid hs
  have hb2 : Bytes (w2.alloc (.cells #[.int .u8 97] 5 (1, 2))) (w2.alloc (.cells #[.int .u8 97] 5 (1, 2))).heap.size (.slice (some ⟨w2.heap.size, 0, none⟩) 1 1) [97] :=
    bytes_of_cells rfl (by omega) (by simp) (fun j hj => by
      obtain rfl : j = 0 := by simpa using hj
      rw [World.cell?_alloc_mark]
      rfl)
  have CW := Lib.hid ((hs.below HD.out stays_none ((Below.refl _ _).alloc (Nat.le_refl _) (.cells #[.int .u8 97] 5 (1, 2)))).write HD.out stays_none HE.out (by omega) (by omega) 0 3 _ [97] hb2)
  obtain ⟨u1, hu1⟩ : ∃ u1, (writeD unit0 0 3 [97]).1 = u1 := ⟨_, rfl⟩
  rw [show (writeD unit0 0 3 [97]).2 = 0 by decide +kernel, hu1] at CW
  have HU1 := Lib.hid hu1
  clear CO hb2 hs hu1
  go_wp2_with fail
  refine CW.out.mono ?_
  rintro en w3 ⟨x, rfl, hx, hs⟩
  obtain rfl := isErr_zero hx rfl
  have hb3 : Bytes (w3.alloc (.cells #[.int .u8 98] 5 (1, 2))) (w3.alloc (.cells #[.int .u8 98] 5 (1, 2))).heap.size (.slice (some ⟨w3.heap.size, 0, none⟩) 1 1) [98] :=
    bytes_of_cells rfl (by omega) (by simp) (fun j hj => by
      obtain rfl : j = 0 := by simpa using hj
      rw [World.cell?_alloc_mark]
      rfl)
  have CW2 := Lib.hid ((hs.below HD.out stays_none ((Below.refl _ _).alloc (Nat.le_refl _) (.cells #[.int .u8 98] 5 (1, 2)))).write HD.out stays_none HE.out (by omega) (by omega) 0 3 _ [98] hb3)
  have hw9 : (writeD u1 0 3 [98]).2 = 9 := by rw [← HU1.out]; decide +kernel
  have htl : (max (writeD u1 0 3 [98]).1.top (writeD u1 0 3 [98]).1.trimmed) = 4 := by rw [← HU1.out]; decide +kernel
  obtain ⟨u2, hu2⟩ : ∃ u2, (writeD u1 0 3 [98]).1 = u2 := ⟨_, rfl⟩
  rw [hw9, hu2] at CW2
  rw [hu2] at htl
  have HTl := Lib.hid htl
  clear CW hb3 hs hu2 hw9 htl hx HS
  go_wp2_with fail
  refine CW2.out.mono ?_
  rintro en w4 ⟨x, rfl, hx, hs⟩
  have HS := Lib.hid hs
  have CNum := Lib.hid (num_any a x 9 w4 (HE.out.below hs.since) hx)
  clear hs CW2 hx
  go_wp2_with fail
  refine CNum.out.mono ?_
  rintro en w5 ⟨rfl, hb⟩
  have HS5 := Lib.hid (HS.out.below HD.out stays_none hb)
  have CT := Lib.hid (HS5.out.tail HD.out stays_none (by omega))
  rw [HTl.out] at CT
  clear hb CNum
  go_wp2_with fail
  refine CT.out.mono ?_
  rintro en w6 ⟨rfl, hb, hs⟩
  have HB := Lib.hid hs.since
  clear hb hs
  go_wp2_with fail
  go_ret
  exact ⟨by simp, HB.out⟩
structure ActU where
  kind : Int
  epoch : Int
  adr : Int
  len : Int
  byte : UInt8
abbrev ActU.cells (x : ActU) : Array Value := #[.int .i64 x.kind, .int .i64 x.epoch, .int .i64 x.adr, .int .i64 x.len, .int .u8 (x.byte.toNat : Int)]
def ActU.size (x : ActU) : Nat := if x.len < 0 ∨ 2050 < x.len then 2050 else x.len.toNat
def ActU.page (x : ActU) : List UInt8 := List.replicate x.size x.byte
theorem ActU.size_le (x : ActU) : x.size ≤ 2050 := by unfold ActU.size; split <;> omega
theorem ActU.page_len (x : ActU) : x.page.length = x.size := by simp [ActU.page]
end
end Go.Proofs.YtcpanaokfbojnaaGreatDoor

/- The laws of a unit: an act's page. -/
namespace Go.Proofs.YtcpanaokfbojnaaGreatDoor
open Go Go.RowKit Go.Shelf Tide

set_option maxHeartbeats 1000000 in
theorem page_any (x : ActU) (w : World) : Calls Tryz.prog 14 #[.agg x.cells] w fun e w' => ∃ v, e = .returned v ∧ w'.ownsRow w.heap.size 5 1 v x.size (u8s x.page) ∧ Below w.heap.size w w' := by
  obtain ⟨kind, ep, ad, len, byte⟩ := x
  obtain ⟨z, hz⟩ : ∃ z, ActU.size ⟨kind, ep, ad, len, byte⟩ = z := ⟨_, rfl⟩
  have hzl := ActU.size_le ⟨kind, ep, ad, len, byte⟩
  rw [hz] at hzl
  have hrec : ActU.page ⟨kind, ep, ad, len, byte⟩ = fillR byte z z := by unfold ActU.page fillR; rw [hz]; simp [noughts]
  rw [hz, hrec]
  have mk := make_bytes z (by omega)
  have HZl := Lib.hid hzl
  have hcase : (decide (len < 0) = true ∧ z = 2050) ∨ (decide (len < 0) = false ∧ decide (2050 < len) = true ∧ z = 2050) ∨ (decide (len < 0) = false ∧ decide (2050 < len) = false ∧ len = (z : Int)) := by
    unfold ActU.size at hz
    simp only at hz
    split at hz
    · rename_i h
      by_cases h1 : len < 0
      · exact .inl ⟨decide_eq_true h1, hz.symm⟩
      · exact .inr (.inl ⟨decide_eq_false h1, decide_eq_true (by omega), hz.symm⟩)
    · exact .inr (.inr ⟨decide_eq_false (by omega), decide_eq_false (by omega), by omega⟩)
  clear hrec hz hzl
  rcases hcase with ⟨q1, hl⟩ | ⟨q1, q2, hl⟩ | ⟨q1, q2, hl⟩
  case inl =>
    have mk3 : ∀ W : World, (Instr.makeSlice 45 (.int .i64 2050) (.int .i64 2050)).run Tryz.prog W = .ok (.slice (some ⟨W.heap.size, 0, none⟩) z z) (W.alloc (.cells (u8s (noughts z)).toArray 5)) := by rwa [show ((z : Nat) : Int) = 2050 by omega] at mk
    have HZ3 := Lib.hid hl
    clear mk hl
    go_enter Tryz.func14, Tryz.ntmps14
    go_wp2_with fail
    go_loopw [18] (fun i wr => ∃ k : Nat, i = .int .i64 k ∧ k ≤ z ∧ Hid (wr.heap[w.heap.size + 1]? = some (.cells (u8s (fillR byte z k)).toArray 5)) ∧ Hid (wr.cell? ⟨w.heap.size, 4, none⟩ = some (.int .u8 (byte.toNat : Int))) ∧ Hid (Below w.heap.size w wr)) (fun i _ => z - (intOf i).toNat)
    case atStart =>
      refine ⟨0, rfl, Nat.zero_le _, Lib.hid ?_, Lib.hid ?_, Lib.hid (((Below.refl _ w).alloc (Nat.le_refl _) _).alloc (by simp) _)⟩
      · have := heap_alloc_new (w.alloc (.cells #[.int .i64 kind, .int .i64 ep, .int .i64 ad, .int .i64 len, .int .u8 (byte.toNat : Int)] 30)) (.cells (u8s (noughts z)).toArray 5)
        rw [World.size_alloc] at this
        exact this
      · rw [World.cell?_alloc_lt _ _ _ (by simp), cell_of_row _ _ 4 _ _ _ (heap_alloc_new w _)]
        rfl
    case round =>
      obtain ⟨k, rfl, hk, hc, hx, hb⟩ := hrel
      have fz : wr.frozen? ⟨w.heap.size + 1, k, none⟩ = false := by
        unfold World.frozen?
        rw [show wr.heap[(⟨w.heap.size + 1, k, none⟩ : Addr).block]? = _ from hc.out]
        simp
      have cx := hx.out
      by_cases hlt : k < z
      · have hl := fillR_len byte z k hk
        have ck : wr.cell? ⟨w.heap.size + 1, k, none⟩ = some (.int .u8 (((fillR byte z k)[k]'(by omega)).toNat : Int)) := by
          rw [cell_of_row _ _ k _ _ _ hc.out]
          simpa using u8s_get _ k (by omega)
        generalize (fillR byte z k)[k]'(by omega) = old at ck
        have HS := Lib.hid (fillR_step byte z k hlt)
        have i1 : (k : Int) < (z : Int) := by omega
        have hZ := HZl.out
        clear hl
        go_wp2_with fail
        go_roundw
        case rel =>
          refine ⟨k + 1, by go_num, by omega, Lib.hid ?_, Lib.hid ?_, Lib.hid (hb.out.setCell (p := ⟨w.heap.size + 1, k, none⟩) (by show w.heap.size ≤ w.heap.size + 1; omega) _)⟩
          · rw [← HS.out]
            exact set_block hc.out byte _ rfl
          · rw [World.cell?_setCell_other _ _ _ _ (fun e => by injection e with e _ _; omega)]
            exact hx.out
        case measure => simp [intOf]; omega
      · have hkz : k = z := by omega
        subst hkz
        go_wp2_with fail
        go_ret
        exact ⟨_, rfl, own_of_block hc.out (fillR_len byte _ _ (Nat.le_refl _)) (Nat.le_succ _) (by have := HZl.out; omega), hb.out⟩
  case inr.inl =>
    have mk3 : ∀ W : World, (Instr.makeSlice 45 (.int .i64 2050) (.int .i64 2050)).run Tryz.prog W = .ok (.slice (some ⟨W.heap.size, 0, none⟩) z z) (W.alloc (.cells (u8s (noughts z)).toArray 5)) := by rwa [show ((z : Nat) : Int) = 2050 by omega] at mk
    have HZ3 := Lib.hid hl
    clear mk hl
    go_enter Tryz.func14, Tryz.ntmps14
    go_wp2_with fail
    go_loopw [18] (fun i wr => ∃ k : Nat, i = .int .i64 k ∧ k ≤ z ∧ Hid (wr.heap[w.heap.size + 1]? = some (.cells (u8s (fillR byte z k)).toArray 5)) ∧ Hid (wr.cell? ⟨w.heap.size, 4, none⟩ = some (.int .u8 (byte.toNat : Int))) ∧ Hid (Below w.heap.size w wr)) (fun i _ => z - (intOf i).toNat)
    case atStart =>
      refine ⟨0, rfl, Nat.zero_le _, Lib.hid ?_, Lib.hid ?_, Lib.hid (((Below.refl _ w).alloc (Nat.le_refl _) _).alloc (by simp) _)⟩
      · have := heap_alloc_new (w.alloc (.cells #[.int .i64 kind, .int .i64 ep, .int .i64 ad, .int .i64 len, .int .u8 (byte.toNat : Int)] 30)) (.cells (u8s (noughts z)).toArray 5)
        rw [World.size_alloc] at this
        exact this
      · rw [World.cell?_alloc_lt _ _ _ (by simp), cell_of_row _ _ 4 _ _ _ (heap_alloc_new w _)]
        rfl
    case round =>
      obtain ⟨k, rfl, hk, hc, hx, hb⟩ := hrel
      have fz : wr.frozen? ⟨w.heap.size + 1, k, none⟩ = false := by
        unfold World.frozen?
        rw [show wr.heap[(⟨w.heap.size + 1, k, none⟩ : Addr).block]? = _ from hc.out]
        simp
      have cx := hx.out
      by_cases hlt : k < z
      · have hl := fillR_len byte z k hk
        have ck : wr.cell? ⟨w.heap.size + 1, k, none⟩ = some (.int .u8 (((fillR byte z k)[k]'(by omega)).toNat : Int)) := by
          rw [cell_of_row _ _ k _ _ _ hc.out]
          simpa using u8s_get _ k (by omega)
        generalize (fillR byte z k)[k]'(by omega) = old at ck
        have HS := Lib.hid (fillR_step byte z k hlt)
        have i1 : (k : Int) < (z : Int) := by omega
        have hZ := HZl.out
        clear hl
        go_wp2_with fail
        go_roundw
        case rel =>
          refine ⟨k + 1, by go_num, by omega, Lib.hid ?_, Lib.hid ?_, Lib.hid (hb.out.setCell (p := ⟨w.heap.size + 1, k, none⟩) (by show w.heap.size ≤ w.heap.size + 1; omega) _)⟩
          · rw [← HS.out]
            exact set_block hc.out byte _ rfl
          · rw [World.cell?_setCell_other _ _ _ _ (fun e => by injection e with e _ _; omega)]
            exact hx.out
        case measure => simp [intOf]; omega
      · have hkz : k = z := by omega
        subst hkz
        go_wp2_with fail
        go_ret
        exact ⟨_, rfl, own_of_block hc.out (fillR_len byte _ _ (Nat.le_refl _)) (Nat.le_succ _) (by have := HZl.out; omega), hb.out⟩
  case inr.inr =>
    subst hl
    go_enter Tryz.func14, Tryz.ntmps14
    go_wp2_with fail
    go_loopw [18] (fun i wr => ∃ k : Nat, i = .int .i64 k ∧ k ≤ z ∧ Hid (wr.heap[w.heap.size + 1]? = some (.cells (u8s (fillR byte z k)).toArray 5)) ∧ Hid (wr.cell? ⟨w.heap.size, 4, none⟩ = some (.int .u8 (byte.toNat : Int))) ∧ Hid (Below w.heap.size w wr)) (fun i _ => z - (intOf i).toNat)
    case atStart =>
      refine ⟨0, rfl, Nat.zero_le _, Lib.hid ?_, Lib.hid ?_, Lib.hid (((Below.refl _ w).alloc (Nat.le_refl _) _).alloc (by simp) _)⟩
      · have := heap_alloc_new (w.alloc (.cells #[.int .i64 kind, .int .i64 ep, .int .i64 ad, .int .i64 (z : Int), .int .u8 (byte.toNat : Int)] 30)) (.cells (u8s (noughts z)).toArray 5)
        rw [World.size_alloc] at this
        exact this
      · rw [World.cell?_alloc_lt _ _ _ (by simp), cell_of_row _ _ 4 _ _ _ (heap_alloc_new w _)]
        rfl
    case round =>
      obtain ⟨k, rfl, hk, hc, hx, hb⟩ := hrel
      have fz : wr.frozen? ⟨w.heap.size + 1, k, none⟩ = false := by
        unfold World.frozen?
        rw [show wr.heap[(⟨w.heap.size + 1, k, none⟩ : Addr).block]? = _ from hc.out]
        simp
      have cx := hx.out
      by_cases hlt : k < z
      · have hl := fillR_len byte z k hk
        have ck : wr.cell? ⟨w.heap.size + 1, k, none⟩ = some (.int .u8 (((fillR byte z k)[k]'(by omega)).toNat : Int)) := by
          rw [cell_of_row _ _ k _ _ _ hc.out]
          simpa using u8s_get _ k (by omega)
        generalize (fillR byte z k)[k]'(by omega) = old at ck
        have HS := Lib.hid (fillR_step byte z k hlt)
        have i1 : (k : Int) < (z : Int) := by omega
        have hZ := HZl.out
        clear hl
        go_wp2_with fail
        go_roundw
        case rel =>
          refine ⟨k + 1, by go_num, by omega, Lib.hid ?_, Lib.hid ?_, Lib.hid (hb.out.setCell (p := ⟨w.heap.size + 1, k, none⟩) (by show w.heap.size ≤ w.heap.size + 1; omega) _)⟩
          · rw [← HS.out]
            exact set_block hc.out byte _ rfl
          · rw [World.cell?_setCell_other _ _ _ _ (fun e => by injection e with e _ _; omega)]
            exact hx.out
        case measure => simp [intOf]; omega
      · have hkz : k = z := by omega
        subst hkz
        go_wp2_with fail
        go_ret
        exact ⟨_, rfl, own_of_block hc.out (fillR_len byte _ _ (Nat.le_refl _)) (Nat.le_succ _) (by have := HZl.out; omega), hb.out⟩
end Go.Proofs.YtcpanaokfbojnaaGreatDoor

/- The laws of a unit: their beginning. -/
namespace Go.Proofs.YtcpanaokfbojnaaGreatDoor
open Go Go.RowKit Go.Shelf Tide

section
variable {D : DvP} {a : Nat → Addr} {w W : World}
def refNew (W : World) (k : Nat) : World := (W.alloc (.cells #[.int .i64 (k : Int), .slice none 0 0] 74)).alloc (.cells #[.pointer (some ⟨W.heap.size, 0, none⟩), .slice none 0 0, .slice none 0 0, .slice none 0 0, .int .i64 0, .int .i64 0, .int .i64 0] 71)
theorem unew_any (k : Nat) (W : World) : Calls Tryz.prog 27 #[.int .i64 (k : Int)] W fun e w' => e = .returned (.pointer (some ⟨W.heap.size + 1, 0, none⟩)) ∧ w' = refNew W k := by
  go_enter Tryz.func27, Tryz.ntmps27
  go_wp2_with fail
  go_ret
  exact ⟨rfl, rfl⟩
set_option maxRecDepth 100000 in
set_option maxHeartbeats 4000000 in
theorem ubegin_any (hD : DvSpec (three a) D) (hE : Errs w a) (W : World) (hb : Below w.heap.size w W) (nn : Int) : Calls Tryz.prog 7 #[.int .i64 nn] W fun e w' => ∃ (k dev g p bm : Nat) (w3 : World), 1 ≤ k ∧ k ≤ 4 ∧ e = .returned (.tuple #[.pointer (some ⟨dev, 0, none⟩), .pointer (some ⟨g, 0, none⟩), .pointer (some ⟨w3.heap.size + 1, 0, none⟩)]) ∧ w' = refNew w3 k ∧ UL D w (fun _ => False) (fun _ => True) g p bm dev (64 * k) 0 ⟨⟨k, []⟩, [], 0, 0, 0⟩ w3 := by
  obtain ⟨n5, hn5, hq1, hq1', hq1''⟩ := umod_of nn 4 (by omega) (by omega)
  obtain ⟨k, hk⟩ : ∃ k, k = 1 + n5 := ⟨_, rfl⟩
  have b1 : 1 ≤ k ∧ k ≤ 4 := by omega
  have e1 : (1 : Int) + (n5 : Int) = (k : Int) := by omega
  obtain ⟨y, hy⟩ : ∃ y, y = 64 * k := ⟨_, rfl⟩
  have e2 : (64 : Int) * (k : Int) = (y : Int) := by omega
  have CN := Lib.hid (UO.new hD stays_none (W := W) trivial (fun _ h => h.elim) hb k b1.1 (by omega))
  rw [← hy] at CN
  have HY := Lib.hid hy
  have HYL := Lib.hid (show 64 ≤ y ∧ y ≤ 1000 by omega)
  have b2 : (k : Int) ≤ 4 := by omega
  have b3 : (y : Int) ≤ 256 := by omega
  have HD := Lib.hid hD
  have HE := Lib.hid hE
  clear hk hy hD hE
  go_enter Tryz.func7, Tryz.ntmps7
  go_wp2_with fail
  refine CN.out.mono ?_
  rintro en w2 ⟨dev, rfl, hd⟩
  have CO := Lib.hid (hd.open HD.out stays_none HE.out HYL.out.1 HYL.out.2 (by omega))
  clear hd CN
  go_wp2_with fail
  refine CO.out.mono ?_
  rintro en w3 ⟨g, p, bm, rfl, hs⟩
  have HF := Lib.hid hs
  have CR := Lib.hid (unew_any k w3)
  clear hs CO
  go_wp2_with fail
  refine CR.out.mono ?_
  rintro en w4 ⟨rfl, rfl⟩
  go_wp2_with fail
  go_ret3
  exact ⟨k, dev, g, p, bm, w3, b1.1, b1.2, rfl, rfl, by rw [← HY.out]; exact HF.out⟩
end
end Go.Proofs.YtcpanaokfbojnaaGreatDoor

/- What a unit's calls leave of what it told: epochs, tails, pages. It speaks of no program. -/
namespace Go.Proofs.YtcpanaokfbojnaaGreatDoor
open Go Go.RowKit Go.Shelf Tide

def findD (u : UnitD) (A : Int) : Option PageU := u.rows.find? fun p => (p.adr : Int) == A
structure Keeps (u v : UnitD) : Prop where
  epoch : u.epoch ≤ v.epoch
  trimmed : u.trimmed ≤ v.trimmed
  tail : max u.top u.trimmed ≤ max v.top v.trimmed
  page : ∀ A p, findD u A = some p → findD v A = some p
theorem Keeps.refl (u : UnitD) : Keeps u u := ⟨Nat.le_refl _, Nat.le_refl _, Nat.le_refl _, fun _ _ h => h⟩
section
variable {D : DvP} {a : Nat → Addr} {w W W' : World} {FX : Nat → Prop} {X : World → Prop} {g p bm dev n N M : Nat} {u : UnitD}
theorem UL.box (hD : DvSpec (three a) D) (hX : Stays FX X) (h : UL D w FX X g p bm dev n N u W) (o : Obj) : UL D w (fun k => FX k ∨ k = W.heap.size) (fun Y => X Y ∧ Y.heap[W.heap.size]? = some o) g p bm dev n N u (W.alloc o) := by
  obtain ⟨d, s, l, h1, h2⟩ := h
  exact ⟨d, s, l, h1.box hD hX o, h2⟩
theorem UL.less {FX' : Nat → Prop} {X' : World → Prop} (h : UL D w FX X g p bm dev n N u W) (hF : ∀ k, FX' k → FX k) (hX : ∀ Y, X Y → X' Y) : UL D w FX' X' g p bm dev n N u W := by
  obtain ⟨d, s, l, h1, h2⟩ := h
  exact ⟨d, s, l, h1.less hF hX, h2⟩
theorem UL.small (h : UL D w FX X g p bm dev n N u W) (hNl : N ≤ 90000) : u.epoch ≤ 1073741824 ∧ u.trimmed ≤ 4096 ∧ u.top ≤ 4096 ∧ ∀ A q, findD u A = some q → ¬ A < u.trimmed → 1 ≤ q.bs.length ∧ q.bs.length ≤ 2048 := by
  obtain ⟨d, s, l, h1, h2, h3, h4, h5, h6, h7⟩ := h
  have hok := holds_ok h5 h7 (by omega)
  have e1 := hok.epoch
  have e2 := hok.trimmed
  rw [h5.epoch] at e1
  rw [h5.trimmed] at e2
  have hin : ∀ q ∈ u.rows, u.trimmed ≤ q.adr → q ∈ s.pages := fun q hq ht => by
    rw [h5.pages]
    exact List.mem_filter.2 ⟨hq, by simpa using ht⟩
  refine ⟨e1, e2, ?_, fun A q hq hA => ?_⟩
  · rcases h5.top with h8 | ⟨q, hq, h8⟩
    · omega
    · by_cases ht : u.trimmed ≤ q.adr
      · have := hok.adrs q (hin q hq ht)
        omega
      · omega
  · unfold findD at hq
    have hm := List.mem_of_find?_eq_some hq
    have he := List.find?_some hq
    simp only [beq_iff_eq] at he
    exact page_small h5 q (hin q hm (by omega))
end
end Go.Proofs.YtcpanaokfbojnaaGreatDoor

/- A unit with the document's own beside it, in one memory. -/
namespace Go.Proofs.YtcpanaokfbojnaaGreatDoor
open Go Go.RowKit Tide

section
variable {D : DvP} {x a : Nat → Addr} {w W W' : World} {FX FX' K : Nat → Prop} {X X' : World → Prop} {g p bm dev n N : Nat} {us : List SegU} {d : Dv} {s : StU} {u : UnitD} {G S : Nat → Prop} {q : Nat}
theorem US.swap (hD : DvSpec x D) (h : US D w FX X g p bm dev us d s W) (hk : Kept K W W') (hK : ∀ k, K k → FX k ∧ w.heap.size ≤ k) (hF : ∀ k, FX' k → FX k ∨ W.heap.size ≤ k) (hl : ∀ k, FX' k → k < W'.heap.size) (hX : X' W') : US D w FX' X' g p bm dev us d s W' := by
  obtain ⟨Fd, Fs, vs, h1, h2, h3, h4, h5, h6, h7, h8, h9⟩ := h
  have hn : ∀ k, (Fd k ∨ Fs k ∨ k = g ∨ k = bm) → ¬ K k := fun k hk e => (h6 k hk).1 (hK k e).1
  refine ⟨Fd, Fs, vs, hD.keep _ _ _ _ _ _ h1 hk (fun k hf => hn k (.inl hf)), h2.keep hk (fun k hf => hn k (.inr (.inl hf))), h3.kept hk (hn g (.inr (.inr (.inl rfl)))) (hn bm (.inr (.inr (.inr rfl)))), h4, h5, fun k hk' => ⟨fun hf => ?_, (h6 k hk').2.1, Nat.lt_of_lt_of_le (h6 k hk').2.2 hk.size⟩, hl, h8.trans (hk.below h8.size (fun i hi => (hK i hi).2)), hX⟩
  rcases hF k hf with h | h
  · exact (h6 k hk').1 h
  · have := (h6 k hk').2.2; omega
theorem UL.swap (hD : DvSpec x D) (h : UL D w FX X g p bm dev n N u W) (hk : Kept K W W') (hK : ∀ k, K k → FX k ∧ w.heap.size ≤ k) (hF : ∀ k, FX' k → FX k ∨ W.heap.size ≤ k) (hl : ∀ k, FX' k → k < W'.heap.size) (hX : X' W') : UL D w FX' X' g p bm dev n N u W' := by
  obtain ⟨d, s, l, h1, h2⟩ := h
  exact ⟨d, s, l, h1.swap hD hk hK hF hl hX, h2⟩
theorem UL.lt (h : UL D w FX X g p bm dev n N u W) : ∀ k, FX k → k < W.heap.size := by
  obtain ⟨d, s, l, ⟨Fd, Fs, vs, h1, h2, h3, h4, h5, h6, h7, h8, h9⟩, _⟩ := h
  exact h7
end
end Go.Proofs.YtcpanaokfbojnaaGreatDoor

/- What a unit of the document's own is, where it is bound to a unit on its device: small enough for its walks; its Trim's loop is what the pages that are needed say. -/
namespace Go.Proofs.YtcpanaokfbojnaaGreatDoor
open Go Go.RowKit Tide

structure OkR (u : UnitD) : Prop where
  small : Small u.store
  small2 : ∀ b, Small (appendD u.store b).1
  rows : u.rows.length ≤ 5000
  bytes : ∀ r ∈ u.rows, u.trimmed ≤ r.adr → r.bs.length ≤ 2048
  epoch : u.epoch ≤ 1073741824
  trims : ∀ n : Nat, n ≤ 4096 → u.trimmed < n → (putRec u ⟨2, n, u.epoch, []⟩).2.2 = 0 → trimLoop u.rows n (putRec u ⟨2, n, u.epoch, []⟩).1.segs.length (putRec u ⟨2, n, u.epoch, []⟩).1 = dropBelow (neededU u.rows n (putRec u ⟨2, n, u.epoch, []⟩).2.1.toNat) (putRec u ⟨2, n, u.epoch, []⟩).1
theorem last_push (gs : List SegD) (b : List UInt8) : lastNo (pushD gs b) = lastNo gs := by
  rcases List.eq_nil_or_concat gs with rfl | ⟨l, x, hc⟩
  · rfl
  · rw [List.concat_eq_append] at hc
    subst hc
    rw [push_snoc, last_snoc, last_snoc]
    rfl
theorem last_append {s : StoD} {b : List UInt8} (h : (appendD s b).2.2 = 0) : (appendD s b).2.1 = lastNo (appendD s b).1.segs := by
  unfold appendD at h ⊢
  split
  · rename_i h1
    rw [if_pos h1] at h
    exact absurd (show (4 : Int) = 0 from h) (by decide)
  · rename_i h1
    rw [if_neg h1] at h
    split
    · simp only [last_push]
    · rename_i h2
      rw [if_neg h2] at h
      cases ht : takeD s with
      | none => rw [ht] at h; exact absurd (show (13 : Int) = 0 from h) (by decide)
      | some t => simp only [last_push]
theorem app_places (s : StoD) (b : List UInt8) : (appendD s b).1.places = s.places := by
  unfold appendD
  split
  · rfl
  · split
    · rfl
    · cases ht : takeD s with
      | none => rfl
      | some t =>
        unfold takeD at ht
        split at ht
        · cases ht
        · injection ht with ht
          subst ht
          rfl
theorem recs_mem {gs : List SegD} {b : List UInt8} {n : Nat} (h : (b, n) ∈ recsWith gs) : ∃ g ∈ gs, g.number = n := by
  unfold recsWith at h
  obtain ⟨g, hg, hx⟩ := List.mem_flatMap.1 h
  obtain ⟨c, _, e⟩ := List.mem_map.1 hx
  injection e with _ e
  exact ⟨g, hg, e⟩
theorem holds_seg {u : UnitD} {s : StU} {l : List (RecU × Nat)} (h : Holds u s l) : ∀ p ∈ u.rows, u.trimmed ≤ p.adr → ∃ b, (b, p.seg) ∈ recsWith u.store.segs := fun p hp ht => by
  have h1 : p ∈ s.pages := by
    rw [h.pages]
    exact List.mem_filter.2 ⟨hp, by simpa using ht⟩
  rw [← h.state] at h1
  unfold forgetU at h1
  have h2 := (List.mem_filter.1 h1).1
  rw [replay_pages l h.apart] at h2
  unfold pagesU at h2
  obtain ⟨x, hx, he⟩ := List.mem_filterMap.1 h2
  by_cases hk : x.1.kind = 1
  · rw [if_pos hk] at he
    injection he with he
    subst he
    exact ⟨encR x.1, by rw [h.recs]; exact List.mem_map.2 ⟨x, hx, rfl⟩⟩
  · rw [if_neg hk] at he
    cases he
theorem ok_of {u : UnitD} {s : StU} {l : List (RecU × Nat)} {N : Nat} (h : Holds u s l) (hN : NumLe N u.store) (hNl : N ≤ 90000) (hp : u.store.places ≤ 900) (he : u.epoch ≤ 1073741824) (ht : u.top ≤ 4096)
    (hb : ∀ A q, findD u A = some q → ¬ A < u.trimmed → 1 ≤ q.bs.length ∧ q.bs.length ≤ 2048) : OkR u where
  small := small_of h.wf hp hN (by omega)
  small2 := fun b => small_of (append_wf h.wf b) (by rw [app_places]; exact hp) (append_num hN) (by omega)
  rows := by
    have := len_pages h.once (fun q hq => by have := h.low q hq; omega)
    omega
  bytes := fun r hr ht => by
    have h1 : ∃ q, findD u (r.adr : Int) = some q := by
      unfold findD
      cases hf : u.rows.find? fun p => (p.adr : Int) == (r.adr : Int) with
      | none => exact absurd (List.find?_eq_none.1 hf r hr) (by simp)
      | some q => exact ⟨q, rfl⟩
    obtain ⟨q, hq⟩ := h1
    have h2 := (hb _ q hq (by omega)).2
    unfold findD at hq
    have hm := List.mem_of_find?_eq_some hq
    have hA := List.find?_some hq
    simp only [beq_iff_eq] at hA
    have : q = r := once_inj h.once hm hr (by omega)
    rw [← this]
    exact h2
  epoch := he
  trims := fun n hn htn hr => by
    have hw : (appendD u.store (encR ⟨2, n, u.epoch, []⟩)).1.Wf := append_wf h.wf _
    refine trim_is _ _ _ _ _ (Nat.le_refl _) hw.rise (fun g hg => ?_) (fun p hp' hto => ?_)
    · have h1 : (putRec u ⟨2, n, u.epoch, []⟩).2.1 = lastNo (putRec u ⟨2, n, u.epoch, []⟩).1.segs := last_append hr
      rw [h1]
      unfold lastNo
      rw [hg]
      simp
    · obtain ⟨b, hb2⟩ := holds_seg h p hp' (by omega)
      obtain ⟨no, _, h2, _⟩ := append_recs (m := u.store) (b := encR ⟨2, n, u.epoch, []⟩) hr
      exact recs_mem (b := b) (by
        show (b, p.seg) ∈ recsWith (appendD u.store (encR ⟨2, n, u.epoch, []⟩)).1.segs
        rw [h2]
        exact List.mem_append_left _ hb2)
theorem UL.okR {D : DvP} {w W : World} {FX : Nat → Prop} {X : World → Prop} {g p bm dev n N : Nat} {u : UnitD} (h : UL D w FX X g p bm dev n N u W) (hn : n ≤ 1000) (hNl : N ≤ 90000) : OkR u := by
  have hs := h.small hNl
  obtain ⟨d, s, l, h1, h2, h3, h4, h5, h6, h7⟩ := h
  exact ok_of h5 h7 hNl (by have := h4.places; omega) hs.1 hs.2.2.1 hs.2.2.2
end Go.Proofs.YtcpanaokfbojnaaGreatDoor

/- A list of acts on a unit, as it lies in memory. -/
namespace Go.Proofs.YtcpanaokfbojnaaGreatDoor
open Go Go.RowKit Go.Shelf Tide

def ActsU (w : World) (B : Nat) (v : Value) (ks : List ActU) : Prop := Recs w B v 5 (ks.map fun k => k.cells.toList)
theorem ActsU.form {w : World} {B : Nat} {v : Value} {ks : List ActU} (h : ActsU w B v ks) : ∃ A c, v = .slice A ks.length c ∧ ks.length ≤ 9223372036854775807 ∧ ∀ i (hi : i < ks.length), ∃ b o, A = some ⟨b, o, none⟩ ∧ b < B ∧
    w.cell? ⟨b, o + i * 5, none⟩ = some (.int .i64 ks[i].kind) ∧ w.cell? ⟨b, o + i * 5 + 1, none⟩ = some (.int .i64 ks[i].epoch) ∧ w.cell? ⟨b, o + i * 5 + 2, none⟩ = some (.int .i64 ks[i].adr) ∧ w.cell? ⟨b, o + i * 5 + 3, none⟩ = some (.int .i64 ks[i].len) ∧ w.cell? ⟨b, o + i * 5 + 4, none⟩ = some (.int .u8 (ks[i].byte.toNat : Int)) := by
  obtain ⟨hn, A, c, rfl, hc⟩ := h
  refine ⟨A, c, by rw [List.length_map], by simpa using hn, fun i hi => ?_⟩
  obtain ⟨b, o, rfl, hb, hcell⟩ := hc (by
    intro e
    have h9 : (ks.map fun k => k.cells.toList).length = 0 := by rw [e]; rfl
    rw [List.length_map] at h9
    omega)
  have he : (ks.map fun k => k.cells.toList)[i]? = some (ks[i]).cells.toList := by simp [hi]
  have e : ∀ j, o + i * 5 + j = o + (i * 5 + j) := fun j => Nat.add_assoc _ _ _
  exact ⟨b, o, rfl, hb, hcell i 0 _ _ he rfl, by rw [e]; exact hcell i 1 _ _ he rfl, by rw [e]; exact hcell i 2 _ _ he rfl, by rw [e]; exact hcell i 3 _ _ he rfl, by rw [e]; exact hcell i 4 _ _ he rfl⟩
end Go.Proofs.YtcpanaokfbojnaaGreatDoor
