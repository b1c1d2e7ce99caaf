/- Package token: New. -/
import Derived.Test.YtfgpjelnijeoaaaDoorTkL
import Derived.Deep.RegionHeld3
namespace Go.Proofs.YtfgpjelnijeoaaaDoor
open Go Go.RowKit Tide

theorem zeroTok : Tryd.zeroCells66 = (List.replicate 67 (.int .i64 0)).toArray := by kernel_rfl
/-- A sequencer that holds nothing. -/
theorem TokIs.made (w : World) (ep : Int) (nx : Nat) : TokIs (w.alloc (.cells ((Tryd.zeroCells66.setIfInBounds 0 (.int .i64 ep)).setIfInBounds 1 (.int .i64 (nx : Int))) 66)) w.heap.size ⟨ep, nx, List.replicate 13 []⟩ := by
  have e : (Tryd.zeroCells66.setIfInBounds 0 (.int .i64 ep)).setIfInBounds 1 (.int .i64 (nx : Int)) = (((List.replicate 67 (Value.int .i64 0)).set 0 (.int .i64 ep)).set 1 (.int .i64 (nx : Int))).toArray := by
    rw [zeroTok]; simp
  rw [e]
  refine ⟨_, heap_alloc_new w _, ⟨by simp, by simp, by simp, by simp, fun x l hl => ?_⟩⟩
  rw [List.getElem?_replicate] at hl
  split at hl
  · rename_i hx
    injection hl with hl
    subst hl
    have key : ∀ j, 2 ≤ j → j < 67 → (((List.replicate 67 (Value.int .i64 0)).set 0 (.int .i64 ep)).set 1 (.int .i64 (nx : Int)))[j]? = some (.int .i64 0) := fun j h2 hj => by
      rw [List.getElem?_set_ne (by omega), List.getElem?_set_ne (by omega), List.getElem?_replicate, if_pos hj]
    exact ⟨0, 0, 0, 0, key _ (by omega) (by omega), key _ (by omega) (by omega), key _ (by omega) (by omega), key _ (by omega) (by omega), key _ (by omega) (by omega), rfl⟩
  · cases hl
section
variable {a : Nat → Addr} {w w' : World} {g : Nat} {s : SeqD}
set_option maxRecDepth 100000 in
set_option maxHeartbeats 2000000 in
theorem new_tok (ep : Int) (nx : Nat) (bs : List (Int × List Int)) (v : Value) (B : Nat) (w : World) (hE : E5 a w) (hv : Backs w B v bs) (hB : B ≤ w.heap.size) (hlen : bs.length ≤ 20) (h0 : 0 ≤ ep) (h1 : ep ≤ 1073741824) (h3 : nx ≤ 4096) :
    Calls Tryd.prog 8 #[.int .i64 ep, .int .i64 (nx : Int), v] w fun e w' => Below w.heap.size w w' ∧
      ((newOk nx bs ∧ ∃ g, w.heap.size ≤ g ∧ e = .returned (.tuple #[.pointer (some ⟨g, 0, none⟩), .nilIface]) ∧ TokIs w' g ⟨ep, nx, fillL bs⟩) ∨ (¬ newOk nx bs ∧ e = .returned (.tuple #[.pointer none, errAt (a 3)]))) := by
  have HV := Lib.hid (fun W (h : Below w.heap.size w W) => (hv.below (h.mono hB)))
  have CR := Lib.hid (right_tok nx bs v B w hv hB hlen)
  obtain ⟨hl, A, c, rfl, _⟩ := hv.form
  have i1 : ¬ ep < 0 := by omega
  have i2 : ¬ 1073741824 < ep := by omega
  have i3 : ¬ (nx : Int) < 0 := by omega
  have i4 : ¬ (4096 : Int) < (nx : Int) := by omega
  have HB := Lib.hid hB
  have HE := Lib.hid hE
  clear hv hB hE
  go_enter Tryd.func8, Tryd.ntmps8
  go_wp2_with fail
  refine CR.out.mono ?_
  rintro en w1 ⟨⟨b, rfl, hbn⟩, hb1⟩
  have B1 := Lib.hid hb1
  have HBN := Lib.hid hbn
  clear hb1 hbn CR
  have cf := (HE.out.below B1.out).form
  cases b with
  | false =>
    go_wp2_with fail
    go_quiet (fail)
    go_wp2_with fail
    go_ret2
    exact ⟨below_drewN B1.out _, .inr ⟨fun h => absurd (HBN.out.2 h) (by simp), rfl⟩⟩
  | true =>
    clear cf
    go_wp2_with fail
    have T0 := Lib.hid (TokIs.made w1 ep nx)
    obtain ⟨w2, hw2⟩ : ∃ w2, w1.alloc (.cells ((Tryd.zeroCells66.setIfInBounds 0 (.int .i64 ep)).setIfInBounds 1 (.int .i64 (nx : Int))) 66) = w2 := ⟨_, rfl⟩
    have B2 := Lib.hid (show Below w.heap.size w w2 from by rw [← hw2]; exact B1.out.alloc B1.out.size _)
    have HNO := Lib.hid (HBN.out.1 trivial)
    obtain ⟨q, hq⟩ : ∃ q, w1.heap.size = q := ⟨_, rfl⟩
    have HQ := Lib.hid (show w.heap.size ≤ q from by rw [← hq]; exact B1.out.size)
    rw [hw2, hq] at T0
    rw [hw2, hq]
    clear hw2 hq HBN B1
    go_loopw [36] (fun z wr => ∃ k : Nat, z = .int .i64 k ∧ k ≤ bs.length ∧ Hid (Below w.heap.size w wr) ∧ Hid (TokIs wr q ⟨ep, nx, fillL (bs.take k)⟩)) (fun z _ => bs.length - (intOf z).toNat)
    case atStart => exact ⟨0, rfl, Nat.zero_le _, B2, T0⟩
    case round =>
      clear T0 B2
      obtain ⟨k, rfl, hk, hBq, hT⟩ := hrel
      by_cases hlt : k < bs.length
      · obtain ⟨_, A1, c1, e1, hcA⟩ := (HV.out wr hBq.out).form
        injection e1 with e1 _ e1c
        subst e1 e1c
        obtain ⟨b, o, ux, rfl, hbB, hx0, hx1, hr1⟩ := hcA k hlt
        have hr := Lib.hid hr1
        obtain ⟨_, Au, cu, rfl, _⟩ := row_ints hr1
        have i5 : (k : Int) < (bs.length : Int) := by omega
        obtain ⟨hx2, hx3⟩ := upB_mem HNO.out.2 _ (List.mem_map.2 ⟨_, List.getElem_mem hlt, rfl⟩)
        have h4 := (HNO.out.1 _ (List.getElem_mem hlt)).1
        have HT := Lib.hid (show fillL (bs.take (k + 1)) = (fillL (bs.take k)).set bs[k].1.toNat bs[k].2 from by rw [List.take_succ_eq_append_getElem hlt, fill_snoc])
        clear hr1 hcA
        generalize bs[k] = x at *
        obtain ⟨st, a'⟩ := x
        simp only [] at hx0 hx1 hr hx2 hx3 h4 HT
        obtain ⟨y, rfl⟩ : ∃ y : Nat, st = (y : Int) := ⟨st.toNat, by omega⟩
        have hy13 : y < 13 := by omega
        have i13 : (y : Int) < 13 := by omega
        obtain ⟨wa, hwa⟩ : ∃ wa, wr.alloc (.cells #[.int .i64 (y : Int), .slice Au a'.length cu] 51) = wa := ⟨_, rfl⟩
        have HA := Lib.hid (show Below wr.heap.size wr wa from by rw [← hwa]; exact (Below.refl _ _).alloc (Nat.le_refl _) _)
        have HA0 := (show wa.heap[wr.heap.size]? = some (.cells #[.int .i64 (y : Int), .slice Au a'.length cu] 51 (0, 0)) from by rw [← hwa]; exact heap_alloc_new wr _)
        have hlt3 : wr.heap.size < wa.heap.size := (Array.getElem?_eq_some_iff.1 HA0).1
        have d0 : wa.cell? ⟨wr.heap.size, 0, none⟩ = some (.int .i64 (y : Int)) := cell_of_row _ _ 0 _ _ _ HA0
        have d1 : wa.cell? ⟨wr.heap.size, 1, none⟩ = some (.slice Au a'.length cu) := cell_of_row _ _ 1 _ _ _ HA0
        have RA := hr.out.keep (below_cells (HA.out.mono (Nat.le_trans HB.out hBq.out.size)))
        have hTl := hT.out.lt
        obtain ⟨cs, hcs, hcc⟩ := hT.out.below HA.out
        have hna := hcc.na
        simp only [] at hna
        have CS := Lib.hid (set_any (w := wa.drew) a' _ B (show TokB wa.drew q cs from hcs) (hcc.row y _ (List.getElem?_eq_getElem (by rw [hna]; exact hy13))) (show Row wa.drew B _ _ from RA) h4)
        have HC := Lib.hid hcc
        have D0 := Lib.hid (And.intro d0 d1)
        have HLt := Lib.hid (And.intro hlt3 hTl)
        clear hcs hcc RA HA0 hr d0 d1
        go_wp2_with fail
        have hd0 := D0.out
        go_region_held3 (fun W => W.cell? ⟨wr.heap.size, 0, none⟩ = some (.int .i64 (y : Int)) ∧ W.cell? ⟨wr.heap.size, 1, none⟩ = some (.slice Au a'.length cu))
          (first | exact D0.out | exact D5.out | assumption)
          (first
            | (go_at_call 21; (with_reducible refine CS.out.mono ?_); rintro e w5 ⟨rfl, hk5, cs', hcs', hoff, hr'⟩; have D5 := Lib.hid (show w5.cell? ⟨wr.heap.size, 0, none⟩ = some (.int .i64 (y : Int)) ∧ w5.cell? ⟨wr.heap.size, 1, none⟩ = some (.slice Au a'.length cu) from ⟨(hk5.cell (p := ⟨wr.heap.size, 0, none⟩) HLt.out.1 (by have := HLt.out.2; show ¬ wr.heap.size = q; omega)).trans D0.out.1, (hk5.cell (p := ⟨wr.heap.size, 1, none⟩) HLt.out.1 (by have := HLt.out.2; show ¬ wr.heap.size = q; omega)).trans D0.out.2⟩)))
        have T5 := Lib.hid (show TokIs w5 q ⟨ep, nx, fillL (bs.take (k + 1))⟩ from ⟨cs', hcs', by rw [HT.out, Int.toNat_natCast]; exact HC.out.setRow hoff hr'⟩)
        have B5 := Lib.hid (show Below w.heap.size w w5 from Tide.Below.kept (hBq.out.trans (HA.out.mono hBq.out.size)).drew hk5 (Nat.le_trans hBq.out.size (Nat.le_of_lt hlt3)) (fun i h => by have := HQ.out; omega))
        clear hk5 hcs' hoff hr' CS hd0 D0 D5
        go_wp2_with fail
        go_roundw
        case rel => exact ⟨k + 1, by go_num, by omega, B5, T5⟩
        case measure => simp [intOf]; omega
      · have ek : bs.take k = bs := List.take_of_length_le (by omega)
        rw [ek] at hT
        go_wp2_with fail
        go_ret2
        exact ⟨hBq.out, .inl ⟨HNO.out, q, HQ.out, rfl, hT.out⟩⟩
end
end Go.Proofs.YtfgpjelnijeoaaaDoor
