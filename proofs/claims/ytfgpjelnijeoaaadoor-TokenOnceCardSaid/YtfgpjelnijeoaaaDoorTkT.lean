/- The law of a sequencer's copy, which is apart. -/
import Derived.Test.YtfgpjelnijeoaaaDoorTkR
import Derived.Test.YtfgpjelnijeoaaaDoorTkP
import Derived.Test.YtfgpjelnijeoaaaDoorPlN
import Derived.Test.YtfgpjelnijeoaaaDoorUmod
import Derived.Deep.RegionHeld3
namespace Go.Proofs.YtfgpjelnijeoaaaDoor
open Go Go.RowKit Tide

/-- Take that told no error. -/
theorem takeD_yes {s : SeqD} {ep : Int} {l : List Int} (h : (takeD s ep l).1.2.2 = 0) : upB l = true ∧ s.nx < 4096 ∧ takeD s ep l = (((s.nx : Int), (takeL s.nx s.all l).1, 0), { s with nx := s.nx + 1, all := (takeL s.nx s.all l).2 }) := by
  unfold takeD at h ⊢
  by_cases e1 : ep ≠ s.ep
  · rw [if_pos e1] at h; cases h
  · rw [if_neg e1] at h ⊢
    by_cases e2 : ¬ (1 ≤ l.length ∧ l.length ≤ 3 ∧ upB l = true)
    · rw [if_pos e2] at h; cases h
    · rw [if_neg e2] at h ⊢
      by_cases e3 : 4096 ≤ s.nx
      · rw [if_pos e3] at h; cases h
      · rw [if_neg e3]
        exact ⟨(Classical.byContradiction fun h => e2 h).2.2, by omega, rfl⟩
theorem takeD_not {s : SeqD} {ep : Int} {l : List Int} (h : (takeD s ep l).1.2.2 ≠ 0) : (takeD s ep l).1.1 = 0 ∧ (takeD s ep l).1.2.1 = [] ∧ (takeD s ep l).2 = s := by
  unfold takeD at h ⊢
  by_cases e1 : ep ≠ s.ep
  · rw [if_pos e1]; exact ⟨rfl, rfl, rfl⟩
  · rw [if_neg e1] at h ⊢
    by_cases e2 : ¬ (1 ≤ l.length ∧ l.length ≤ 3 ∧ upB l = true)
    · rw [if_pos e2]; exact ⟨rfl, rfl, rfl⟩
    · rw [if_neg e2] at h ⊢
      by_cases e3 : 4096 ≤ s.nx
      · rw [if_pos e3]; exact ⟨rfl, rfl, rfl⟩
      · rw [if_neg e3] at h; exact absurd rfl h
theorem sameI_own {W : World} {u v : Value} {x y : List Int} {B B' : Nat} (hu : Own W B u x) (hv : Own W B' v y) : Calls Tryd.prog 16 #[u, v] W fun e w' => e = .returned (.bool (decide (x = y))) ∧ Below W.heap.size W w' := by
  refine (sameIq_any u v x y W.heap.size W.heap.size W hu.row hv.row).mono ?_
  rintro e w' ⟨rfl, n, rfl⟩
  exact ⟨rfl, below_drewN (Below.refl _ _) n⟩
section
variable {a : Nat → Addr} {w w' : World} {g : Nat} {s : SeqD}
set_option maxRecDepth 100000 in
set_option maxHeartbeats 4000000 in
theorem tokenApart_law (a : Nat → Addr) (aks : List (Int × List Int)) (x : Int) (v : Value) (w : World) (hv : Backs w w.heap.size v aks) (hE : E5 a w) :
    Calls Tryd.prog 5 #[v, .int .i64 x] w fun e w' => e = .returned (.bool true) ∧ Below w.heap.size w w' := by
  have HV := Lib.hid (fun W (h : Below w.heap.size w W) => hv.below h)
  obtain ⟨hl, A, c, rfl, _⟩ := hv.form
  obtain ⟨y, hy, hq1, hq2, hq3⟩ := umod_of x 13 (by omega) (by omega)
  have hq4 : wrap64 (y : Int) = (y : Int) := by unfold wrap64; omega
  have hq5 : IntKind.i64.wrap (y : Int) = (y : Int) := by simp [IntKind.wrap, IntKind.signed, IntKind.bits]; omega
  have HQ := Lib.hid (And.intro hq1 (And.intro hq2 (And.intro hq3 (And.intro hq4 hq5))))
  have HE := Lib.hid hE
  have CA := Lib.hid (talive_any hE)
  have hnil := tnil_iface
  have herr := terr_iface
  clear hv hE hq1 hq2 hq3 hq4 hq5
  go_enter Tryd.func5, Tryd.ntmps5
  go_wp2_with fail
  refine CA.out.mono ?_
  rintro en w1 ⟨rfl, hb1⟩
  have B1 := Lib.hid hb1
  have CN := Lib.hid (new_tok 1 0 [] (.slice none 0 0) w1.heap.size w1 (HE.out.below hb1) (Backs.nil _ _) (Nat.le_refl _) (by simp) (by omega) (by omega) (by omega))
  clear hb1 CA
  by_cases hlen : 60 < aks.length
  · have i1 : (60 : Int) < (aks.length : Int) := by omega
    go_wp2_with fail
    go_ret
    exact ⟨rfl, B1.out⟩
  have i1 : ¬ (60 : Int) < (aks.length : Int) := by omega
  have HL := Lib.hid hlen
  clear hlen
  go_wp2_with fail
  refine CN.out.mono ?_
  rintro en w2 ⟨hb2, (⟨_, g, hg0, rfl, hT⟩ | ⟨hno, _⟩)⟩
  case inr => exact absurd (newOk_nil _) hno
  have B2 := Lib.hid (B1.out.trans (hb2.mono B1.out.size))
  have T2 := Lib.hid hT
  have HG := Lib.hid (Nat.le_trans B1.out.size hg0)
  clear hb2 hT hg0 CN
  obtain ⟨hq1, hq2, hq3, hq4, hq5⟩ := HQ.out
  go_wp2_with fail
  have T2 := Lib.hid (show ∃ s, TokIs w2 g s ∧ s.ep = 1 ∧ s.nx ≤ 4096 from ⟨_, T2.out, rfl, by simp⟩)
  clear hq1 hq2 hq3 hq4 hq5
  go_loopw [41] (fun z wr => ∃ k : Nat, z = .int .i64 k ∧ k ≤ aks.length ∧ Hid (Below w.heap.size w wr) ∧ Hid (∃ s, TokIs wr g s ∧ s.ep = 1 ∧ s.nx ≤ 4096)) (fun z _ => aks.length - (intOf z).toNat)
  case atStart => exact ⟨0, rfl, Nat.zero_le _, B2, T2⟩
  case round =>
    clear B1 B2 T2
    obtain ⟨k, rfl, hk, hB, hT⟩ := hrel
    by_cases hlt : k < aks.length
    · obtain ⟨_, A1, c1, e1, hcA⟩ := (HV.out wr hB.out).form
      injection e1 with e1 _ e1c
      subst e1 e1c
      obtain ⟨b, o, ux, rfl, hbB, hx0, hx1, hr1⟩ := hcA k hlt
      have hr := Lib.hid hr1
      obtain ⟨_, Au, cu, rfl, _⟩ := row_ints hr1
      have i5 : (k : Int) < (aks.length : Int) := by omega
      clear hr1 hcA
      generalize aks[k] = z at *
      obtain ⟨ea, l⟩ := z
      simp only [] at hx0 hx1 hr
      obtain ⟨s, hT, he1, hn⟩ := hT.out
      obtain ⟨wa, hwa⟩ : ∃ wa, wr.alloc (.cells #[.int .i64 ea, .slice Au l.length cu] 39) = wa := ⟨_, rfl⟩
      have HA := Lib.hid (show Below wr.heap.size wr wa from by rw [← hwa]; exact (Below.refl _ _).alloc (Nat.le_refl _) _)
      have HA0 := Lib.hid (show wa.heap[wr.heap.size]? = some (.cells #[.int .i64 ea, .slice Au l.length cu] 39 (0, 0)) from by rw [← hwa]; exact heap_alloc_new wr _)
      have hlt3 : wr.heap.size < wa.heap.size := (Array.getElem?_eq_some_iff.1 HA0.out).1
      have BA := Lib.hid (hB.out.trans (HA.out.mono hB.out.size))
      have TA := Lib.hid (hT.below HA.out)
      have hgr := hT.lt
      have d1 : wa.cell? ⟨wr.heap.size, 1, none⟩ = some (.slice Au l.length cu) := cell_of_row _ _ 1 _ _ _ HA0.out
      by_cases h10 : 10 < l.length
      · have i6 : (10 : Int) < (l.length : Int) := by omega
        go_wp2_with fail
        go_ret
        exact ⟨rfl, BA.out⟩
      have i6 : ¬ (10 : Int) < (l.length : Int) := by omega
      have CC := Lib.hid (copy_tok TA.out)
      obtain ⟨ep, nx, all⟩ := s
      simp only [] at he1 hn
      subst he1
      clear hT h10
      go_wp2_with fail
      refine CC.out.mono ?_
      rintro en w3 ⟨rfl, hT3, hb3⟩
      have B3 := Lib.hid (BA.out.trans (hb3.mono BA.out.size))
      have T3 := Lib.hid (TA.out.below hb3)
      have C3 := Lib.hid hT3
      have A3 := Lib.hid ((hb3.block _ hlt3).trans HA0.out)
      have CK3 := newest_tok T3.out (HE.out.below B3.out) 1 (y : Int)
      rw [if_pos rfl, if_pos (by omega), if_pos ⟨rfl, by omega, by omega⟩, Int.toNat_natCast] at CK3
      have CK3 := Lib.hid CK3
      obtain ⟨cb, hcb⟩ : ∃ cb, wa.heap.size = cb := ⟨_, rfl⟩
      have HCB := Lib.hid (show g ≠ cb ∧ wr.heap.size ≠ cb ∧ w.heap.size ≤ cb from by
        have := TA.out.lt
        have := BA.out.size
        omega)
      rw [hcb] at C3
      rw [hcb]
      clear hT3 hb3 CC d1 hcb
      go_wp2_with fail
      refine CK3.out.mono ?_
      rintro en w4 ⟨was, rfl, ho, hb4⟩
      have B4 := Lib.hid (B3.out.trans (hb4.mono B3.out.size))
      have T4 := Lib.hid (T3.out.below hb4)
      have C4 := Lib.hid (C3.out.below hb4)
      have A4 := Lib.hid ((hb4.block _ (Array.getElem?_eq_some_iff.1 A3.out).1).trans A3.out)
      have W4 := Lib.hid ho
      have CN4 := next_tok T4.out (HE.out.below B4.out) 1
      rw [if_pos rfl, if_pos rfl] at CN4
      have CN4 := Lib.hid CN4
      clear ho hb4 CK3
      go_wp2_with fail
      refine CN4.out.mono ?_
      rintro en w5 ⟨rfl, hb5⟩
      have B5 := Lib.hid (B4.out.trans (hb5.mono B4.out.size))
      have T5 := Lib.hid (T4.out.below hb5)
      have C5 := Lib.hid (C4.out.below hb5)
      have A5 := (hb5.block _ (Array.getElem?_eq_some_iff.1 A4.out).1).trans A4.out
      have W5 := Lib.hid (W4.out.below hb5)
      have d1 : w5.cell? ⟨wr.heap.size, 1, none⟩ = some (.slice Au l.length cu) := cell_of_row _ _ 1 _ _ _ A5
      have hl5 : wr.heap.size < w5.heap.size := (Array.getElem?_eq_some_iff.1 A5).1
      have R5 := Lib.hid (hr.out.keep (below_cells B5.out |> fun h => fun b o hb => (h b o hb).trans (hB.out.cell (p := ⟨b, o, none⟩) hb).symm))
      have CT5 := Lib.hid (taket_any 1 l _ w.heap.size T5.out (HE.out.below B5.out) (row_apart R5.out HG.out T5.out.lt) hn)
      have A5 := Lib.hid A5
      clear hb5 CN4
      go_wp2_with fail
      refine CT5.out.mono ?_
      unfold TookT
      rintro en w6 ⟨vb, x, n, rfl, hn6, hx6, _, hT6, hk6⟩
      have B6 := Lib.hid (show Below w.heap.size w w6 from Tide.Below.kept B5.out hk6 B5.out.size (fun i h => by have := HG.out; omega))
      have A6 := Lib.hid (hk6.heap A5.out (by omega))
      have C6 := Lib.hid (C5.out.kept hk6 (fun h => HCB.out.1 h.symm))
      have W6 := Lib.hid (show Own w6 w3.heap.size was ((all.getD y []).take 4) from hk6.own W5.out (fun i h e => by
        have := (W5.out.lt i h).1
        have := T3.out.lt
        omega))
      rcases hx6 with ⟨rfl, rfl⟩ | ⟨m, hm, rfl, rfl⟩
      · obtain ⟨hu, hn4, hd⟩ := takeD_yes hn6
        have hna : all.length = 13 := by
          obtain ⟨cs, _, hcc⟩ := C6.out
          exact hcc.na
        have hlv := takeL_leaves (nx := nx) hna hu y
        rw [hd] at hT6 ⊢
        have T6 := Lib.hid hT6
        have CK6 := newest_tok T6.out (HE.out.below B6.out) 1 (y : Int)
        rw [if_pos rfl, if_pos (by omega), if_pos ⟨rfl, by omega, by omega⟩, Int.toNat_natCast] at CK6
        simp only [] at CK6 hlv ⊢
        rw [hlv] at CK6
        have HN4 := Lib.hid hn4
        clear hk6 hT6 CT5 d1 hn6 hd hlv hu hna hn4
        by_cases hin : (y : Int) ∈ l
        · rw [if_pos hin] at CK6
          have CK6 := Lib.hid CK6
          have HIN := Lib.hid hin
          clear hin
          go_wp2_with fail
          refine CK6.out.mono ?_
          rintro en w7 ⟨now, rfl, ho, hb7⟩
          have B7 := Lib.hid (B6.out.trans (hb7.mono B6.out.size))
          have T7 := Lib.hid (T6.out.below hb7)
          have C7 := Lib.hid (C6.out.below hb7)
          have A7 := Lib.hid ((hb7.block _ (Array.getElem?_eq_some_iff.1 A6.out).1).trans A6.out)
          have W7 := Lib.hid (W6.out.below hb7)
          have N7 := Lib.hid ho
          have CK7 := newest_tok C7.out (HE.out.below B7.out) 1 (y : Int)
          rw [if_pos rfl, if_pos (by omega), if_pos ⟨rfl, by omega, by omega⟩, Int.toNat_natCast] at CK7
          have CK7 := Lib.hid CK7
          clear ho hb7 CK6
          go_wp2_with fail
          refine CK7.out.mono ?_
          rintro en w8 ⟨old, rfl, ho, hb8⟩
          have B8 := Lib.hid (B7.out.trans (hb8.mono B7.out.size))
          have T8 := Lib.hid (T7.out.below hb8)
          have C8 := Lib.hid (C7.out.below hb8)
          have A8 := Lib.hid ((hb8.block _ (Array.getElem?_eq_some_iff.1 A7.out).1).trans A7.out)
          have W8 := Lib.hid (W7.out.below hb8)
          have N8 := Lib.hid (N7.out.below hb8)
          have O8 := Lib.hid ho
          have CN8 := next_tok C8.out (HE.out.below B8.out) 1
          rw [if_pos rfl, if_pos rfl] at CN8
          have CN8 := Lib.hid CN8
          clear ho hb8 CK7
          go_wp2_with fail
          refine CN8.out.mono ?_
          rintro en w9 ⟨rfl, hb9⟩
          have B9 := Lib.hid (B8.out.trans (hb9.mono B8.out.size))
          have T9 := Lib.hid (T8.out.below hb9)
          have A9 := Lib.hid ((hb9.block _ (Array.getElem?_eq_some_iff.1 A8.out).1).trans A8.out)
          have W9 := Lib.hid (W8.out.below hb9)
          have N9 := Lib.hid (N8.out.below hb9)
          have O9 := Lib.hid (O8.out.below hb9)
          have CS9 := sameI_own O9.out W9.out
          rw [decide_eq_true rfl] at CS9
          have CS9 := Lib.hid CS9
          clear hb9 CN8
          go_wp2_with fail
          refine CS9.out.mono ?_
          rintro en w10 ⟨rfl, hb10⟩
          have B10 := Lib.hid (B9.out.trans (hb10.mono B9.out.size))
          have T10 := Lib.hid (T9.out.below hb10)
          have A10 := (hb10.block _ (Array.getElem?_eq_some_iff.1 A9.out).1).trans A9.out
          have W10 := Lib.hid (W9.out.below hb10)
          have N10 := Lib.hid (N9.out.below hb10)
          have d1 : w10.cell? ⟨wr.heap.size, 1, none⟩ = some (.slice Au l.length cu) := cell_of_row _ _ 1 _ _ _ A10
          have hl10 : wr.heap.size < w10.heap.size := (Array.getElem?_eq_some_iff.1 A10).1
          clear hb10 CS9
          have R10 := Lib.hid (hr.out.keep (fun b o hb => (below_cells B10.out b o hb).trans (hB.out.cell (p := ⟨b, o, none⟩) hb).symm))
          have CI10 := in_any (y : Int) l _ w.heap.size w10 R10.out
          rw [decide_eq_true HIN.out] at CI10
          have CI10 := Lib.hid CI10
          obtain ⟨bn, on, mn, cn, rfl, hz0, hc0⟩ : ∃ bn on mn cn, now = .slice (some ⟨bn, on, none⟩) mn cn ∧ 0 < mn ∧ w10.cell? ⟨bn, on, none⟩ = some (.int .i64 (nx : Int)) := by
            have hN := N10.out
            rw [List.take_succ_cons] at hN
            obtain ⟨_, An, cn, rfl, hcell⟩ := row_ints hN.row
            obtain ⟨bn, on, rfl, _, hc0⟩ := hcell 0 (by simp)
            exact ⟨bn, on, _, cn, rfl, by simp, by simpa using hc0⟩
          have hz1 : ¬ (mn : Int) = 0 := by omega
          have hz2 : (0 : Int) < (mn : Int) := by omega
          have T10 := Lib.hid (show ∃ s, TokIs w10 g s ∧ s.ep = 1 ∧ s.nx ≤ 4096 from ⟨_, T10.out, rfl, by have := HN4.out; show nx + 1 ≤ 4096; omega⟩)
          clear hz0
          go_wp2_with fail
          refine CI10.out.mono ?_
          rintro en w11 ⟨rfl, rfl⟩
          clear CI10
          go_wp2_with fail
          go_roundw
          case rel => exact ⟨k + 1, by go_num, by omega, B10, T10⟩
          case measure => simp [intOf]; omega
        · rw [if_neg hin] at CK6
          have CK6 := Lib.hid CK6
          have HIN := Lib.hid hin
          clear hin
          go_wp2_with fail
          refine CK6.out.mono ?_
          rintro en w7 ⟨now, rfl, ho, hb7⟩
          have B7 := Lib.hid (B6.out.trans (hb7.mono B6.out.size))
          have T7 := Lib.hid (T6.out.below hb7)
          have C7 := Lib.hid (C6.out.below hb7)
          have A7 := Lib.hid ((hb7.block _ (Array.getElem?_eq_some_iff.1 A6.out).1).trans A6.out)
          have W7 := Lib.hid (W6.out.below hb7)
          have N7 := Lib.hid ho
          have CK7 := newest_tok C7.out (HE.out.below B7.out) 1 (y : Int)
          rw [if_pos rfl, if_pos (by omega), if_pos ⟨rfl, by omega, by omega⟩, Int.toNat_natCast] at CK7
          have CK7 := Lib.hid CK7
          clear ho hb7 CK6
          go_wp2_with fail
          refine CK7.out.mono ?_
          rintro en w8 ⟨old, rfl, ho, hb8⟩
          have B8 := Lib.hid (B7.out.trans (hb8.mono B7.out.size))
          have T8 := Lib.hid (T7.out.below hb8)
          have C8 := Lib.hid (C7.out.below hb8)
          have A8 := Lib.hid ((hb8.block _ (Array.getElem?_eq_some_iff.1 A7.out).1).trans A7.out)
          have W8 := Lib.hid (W7.out.below hb8)
          have N8 := Lib.hid (N7.out.below hb8)
          have O8 := Lib.hid ho
          have CN8 := next_tok C8.out (HE.out.below B8.out) 1
          rw [if_pos rfl, if_pos rfl] at CN8
          have CN8 := Lib.hid CN8
          clear ho hb8 CK7
          go_wp2_with fail
          refine CN8.out.mono ?_
          rintro en w9 ⟨rfl, hb9⟩
          have B9 := Lib.hid (B8.out.trans (hb9.mono B8.out.size))
          have T9 := Lib.hid (T8.out.below hb9)
          have A9 := Lib.hid ((hb9.block _ (Array.getElem?_eq_some_iff.1 A8.out).1).trans A8.out)
          have W9 := Lib.hid (W8.out.below hb9)
          have N9 := Lib.hid (N8.out.below hb9)
          have O9 := Lib.hid (O8.out.below hb9)
          have CS9 := sameI_own O9.out W9.out
          rw [decide_eq_true rfl] at CS9
          have CS9 := Lib.hid CS9
          clear hb9 CN8
          go_wp2_with fail
          refine CS9.out.mono ?_
          rintro en w10 ⟨rfl, hb10⟩
          have B10 := Lib.hid (B9.out.trans (hb10.mono B9.out.size))
          have T10 := Lib.hid (T9.out.below hb10)
          have A10 := (hb10.block _ (Array.getElem?_eq_some_iff.1 A9.out).1).trans A9.out
          have W10 := Lib.hid (W9.out.below hb10)
          have N10 := Lib.hid (N9.out.below hb10)
          have d1 : w10.cell? ⟨wr.heap.size, 1, none⟩ = some (.slice Au l.length cu) := cell_of_row _ _ 1 _ _ _ A10
          have hl10 : wr.heap.size < w10.heap.size := (Array.getElem?_eq_some_iff.1 A10).1
          clear hb10 CS9
          have R10 := Lib.hid (hr.out.keep (fun b o hb => (below_cells B10.out b o hb).trans (hB.out.cell (p := ⟨b, o, none⟩) hb).symm))
          have CI10 := in_any (y : Int) l _ w.heap.size w10 R10.out
          rw [decide_eq_false HIN.out] at CI10
          have CI10 := Lib.hid CI10
          have CS10 := sameI_own N10.out W10.out
          rw [decide_eq_true rfl] at CS10
          have CS10 := Lib.hid CS10
          have T10 := Lib.hid (show ∃ s, TokIs w10 g s ∧ s.ep = 1 ∧ s.nx ≤ 4096 from ⟨_, T10.out, rfl, by have := HN4.out; show nx + 1 ≤ 4096; omega⟩)
          go_wp2_with fail
          refine CI10.out.mono ?_
          rintro en w11 ⟨rfl, rfl⟩
          clear CI10
          go_wp2_with fail
          refine CS10.out.mono ?_
          rintro en w12 ⟨rfl, hb12⟩
          have B12 := Lib.hid (B10.out.trans (hb12.mono B10.out.size))
          have T12 := Lib.hid (show ∃ s, TokIs w12 g s ∧ s.ep = 1 ∧ s.nx ≤ 4096 from by
            obtain ⟨s, h1, h2⟩ := T10.out
            exact ⟨s, h1.below hb12, h2⟩)
          clear hb12 CS10
          go_wp2_with fail
          go_roundw
          case rel => exact ⟨k + 1, by go_num, by omega, B12, T12⟩
          case measure => simp [intOf]; omega
      · obtain ⟨hd1, hd2, hd3⟩ := takeD_not (s := ⟨1, nx, all⟩) (ep := 1) (l := l) (by rw [hn6]; omega)
        rw [hd1]
        rw [hd3] at hT6
        have T6 := Lib.hid hT6
        have CK6 := newest_tok T6.out (HE.out.below B6.out) 1 (y : Int)
        rw [if_pos rfl, if_pos (by omega), if_pos ⟨rfl, by omega, by omega⟩, Int.toNat_natCast] at CK6
        have CK6 := Lib.hid CK6
        have HN4 := Lib.hid hn
        clear hk6 hT6 CT5 d1 hn6 hd1 hd2 hd3 hn
        go_wp2_with fail
        refine CK6.out.mono ?_
        rintro en w7 ⟨now, rfl, ho, hb7⟩
        have B7 := Lib.hid (B6.out.trans (hb7.mono B6.out.size))
        have T7 := Lib.hid (T6.out.below hb7)
        have C7 := Lib.hid (C6.out.below hb7)
        have A7 := Lib.hid ((hb7.block _ (Array.getElem?_eq_some_iff.1 A6.out).1).trans A6.out)
        have W7 := Lib.hid (W6.out.below hb7)
        have N7 := Lib.hid ho
        have CK7 := newest_tok C7.out (HE.out.below B7.out) 1 (y : Int)
        rw [if_pos rfl, if_pos (by omega), if_pos ⟨rfl, by omega, by omega⟩, Int.toNat_natCast] at CK7
        have CK7 := Lib.hid CK7
        clear ho hb7 CK6
        go_wp2_with fail
        refine CK7.out.mono ?_
        rintro en w8 ⟨old, rfl, ho, hb8⟩
        have B8 := Lib.hid (B7.out.trans (hb8.mono B7.out.size))
        have T8 := Lib.hid (T7.out.below hb8)
        have C8 := Lib.hid (C7.out.below hb8)
        have A8 := Lib.hid ((hb8.block _ (Array.getElem?_eq_some_iff.1 A7.out).1).trans A7.out)
        have W8 := Lib.hid (W7.out.below hb8)
        have N8 := Lib.hid (N7.out.below hb8)
        have O8 := Lib.hid ho
        have CN8 := next_tok C8.out (HE.out.below B8.out) 1
        rw [if_pos rfl, if_pos rfl] at CN8
        have CN8 := Lib.hid CN8
        clear ho hb8 CK7
        go_wp2_with fail
        refine CN8.out.mono ?_
        rintro en w9 ⟨rfl, hb9⟩
        have B9 := Lib.hid (B8.out.trans (hb9.mono B8.out.size))
        have T9 := Lib.hid (T8.out.below hb9)
        have A9 := Lib.hid ((hb9.block _ (Array.getElem?_eq_some_iff.1 A8.out).1).trans A8.out)
        have W9 := Lib.hid (W8.out.below hb9)
        have N9 := Lib.hid (N8.out.below hb9)
        have O9 := Lib.hid (O8.out.below hb9)
        have CS9 := sameI_own O9.out W9.out
        rw [decide_eq_true rfl] at CS9
        have CS9 := Lib.hid CS9
        clear hb9 CN8
        go_wp2_with fail
        refine CS9.out.mono ?_
        rintro en w10 ⟨rfl, hb10⟩
        have B10 := Lib.hid (B9.out.trans (hb10.mono B9.out.size))
        have T10 := Lib.hid (T9.out.below hb10)
        have A10 := (hb10.block _ (Array.getElem?_eq_some_iff.1 A9.out).1).trans A9.out
        have W10 := Lib.hid (W9.out.below hb10)
        have N10 := Lib.hid (N9.out.below hb10)
        have d1 : w10.cell? ⟨wr.heap.size, 1, none⟩ = some (.slice Au l.length cu) := cell_of_row _ _ 1 _ _ _ A10
        have hl10 : wr.heap.size < w10.heap.size := (Array.getElem?_eq_some_iff.1 A10).1
        clear hb10 CS9
        have CS10 := sameI_own N10.out W10.out
        rw [decide_eq_true rfl] at CS10
        have CS10 := Lib.hid CS10
        have T10 := Lib.hid (show ∃ s, TokIs w10 g s ∧ s.ep = 1 ∧ s.nx ≤ 4096 from ⟨_, T10.out, rfl, HN4.out⟩)
        go_wp2_with fail
        refine CS10.out.mono ?_
        rintro en w12 ⟨rfl, hb12⟩
        have B12 := Lib.hid (B10.out.trans (hb12.mono B10.out.size))
        have T12 := Lib.hid (show ∃ s, TokIs w12 g s ∧ s.ep = 1 ∧ s.nx ≤ 4096 from by
          obtain ⟨s, h1, h2⟩ := T10.out
          exact ⟨s, h1.below hb12, h2⟩)
        clear hb12 CS10
        go_wp2_with fail
        go_roundw
        case rel => exact ⟨k + 1, by go_num, by omega, B12, T12⟩
        case measure => simp [intOf]; omega
    · go_wp2_with fail
      go_ret
      exact ⟨rfl, hB.out⟩
end
end Go.Proofs.YtfgpjelnijeoaaaDoor
