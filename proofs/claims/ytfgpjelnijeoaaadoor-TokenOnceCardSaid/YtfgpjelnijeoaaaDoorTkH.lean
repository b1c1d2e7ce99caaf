/- The document's own sequencer: New. Not tied to package token's code. -/
import Derived.Test.YtfgpjelnijeoaaaDoorTkG
namespace Go.Proofs.YtfgpjelnijeoaaaDoor
open Go Go.RowKit Tide

/-- Addresses that may be told at a begin. -/
def okTo (nx : Int) (a : List Int) (j : Nat) : Prop := a.length ≤ 4 ∧ ∀ i, ∀ h : i < a.length, i < j → 0 ≤ a[i] ∧ a[i] < nx ∧ (0 < i → a[i] < a[i - 1]'(by omega))
def okA (nx : Int) (a : List Int) : Prop := okTo nx a a.length
theorem okTo_step {nx : Int} {a : List Int} {j : Nat} (h : j < a.length) : okTo nx a (j + 1) ↔ okTo nx a j ∧ 0 ≤ a[j] ∧ a[j] < nx ∧ (0 < j → a[j] < a[j - 1]'(by omega)) := by
  constructor
  · rintro ⟨h1, h2⟩
    exact ⟨⟨h1, fun i hi hj => h2 i hi (by omega)⟩, h2 j h (by omega)⟩
  · rintro ⟨⟨h1, h2⟩, h3⟩
    refine ⟨h1, fun i hi hj => ?_⟩
    rcases Nat.lt_or_ge i j with hlt | hge
    · exact h2 i hi hlt
    · obtain rfl : i = j := by omega
      exact h3

/-- Streams and addresses that a sequencer may begin with, and its rows. -/
def newOk (nx : Int) (bs : List (Int × List Int)) : Prop := (∀ b ∈ bs, okA nx b.2) ∧ upB (bs.map (·.1)) = true
def fillL (bs : List (Int × List Int)) : List (List Int) := bs.foldl (fun all b => all.set b.1.toNat b.2) (List.replicate 13 [])
theorem fill_snoc (bs : List (Int × List Int)) (b : Int × List Int) : fillL (bs ++ [b]) = (fillL bs).set b.1.toNat b.2 := by simp [fillL]
theorem SeqR.new (w : World) (ep : Int) (nx : Nat) : SeqR (w.alloc (seqC ep nx (List.replicate 13 (.slice none 0 0)))) (fun k => k = w.heap.size) w.heap.size ⟨ep, nx, List.replicate 13 []⟩ (List.replicate 13 (.slice none 0 0)) := by
  refine ⟨by simp, by simp, heap_alloc_new w _, rfl, fun k h => by rw [World.size_alloc]; omega, fun i v l hv hl => ?_, fun i v k hv hk => ?_⟩
  · rw [List.getElem?_replicate] at hv hl
    split at hv <;> simp_all
    subst hv hl
    exact World.ownsRow_nil _ _ _ 1
  · rw [List.getElem?_replicate] at hv
    split at hv
    · injection hv with hv
      subst hv
      cases hk
    · cases hv

set_option maxRecDepth 100000 in
set_option maxHeartbeats 2000000 in
theorem new_walk (ep : Int) (nx : Nat) (bs : List (Int × List Int)) (v : Value) (B : Nat) (w : World) (hv : Backs w B v bs) (hB : B ≤ w.heap.size) (hlen : bs.length ≤ 20) (h0 : 0 ≤ ep) (h1 : ep ≤ 1073741824) (h3 : nx ≤ 4096) :
    Calls Tryd.prog 9 #[.int .i64 ep, .int .i64 (nx : Int), v] w fun e w' => Below w.heap.size w w' ∧
      ((newOk nx bs ∧ e = .returned (.tuple #[.pointer (some ⟨w.heap.size, 0, none⟩), .int .i64 0]) ∧ ∃ R, SeqIs w' R w.heap.size ⟨ep, nx, fillL bs⟩ ∧ ∀ k, R k → w.heap.size ≤ k) ∨ (¬ newOk nx bs ∧ e = .returned (.tuple #[.pointer none, .int .i64 4]))) := by
  have HV := Lib.hid (fun W (h : Below w.heap.size w W) => (hv.below (h.mono hB)))
  obtain ⟨hl, A, c, rfl, _⟩ := hv.form
  have i1 : ¬ ep < 0 := by omega
  have i2 : ¬ 1073741824 < ep := by omega
  have i3 : ¬ (nx : Int) < 0 := by omega
  have i4 : ¬ (4096 : Int) < (nx : Int) := by omega
  have HB := Lib.hid hB
  clear hv hB
  go_enter Tryd.func9, Tryd.ntmps9
  go_wp2_with fail
  have S0 := Lib.hid (SeqR.new w ep nx)
  have E0 : seqC ep nx (List.replicate 13 (.slice none 0 0)) = .cells #[.int .i64 ep, .int .i64 nx, .slice none 0 0, .slice none 0 0, .slice none 0 0, .slice none 0 0, .slice none 0 0, .slice none 0 0, .slice none 0 0, .slice none 0 0, .slice none 0 0, .slice none 0 0, .slice none 0 0, .slice none 0 0, .slice none 0 0] 70 := rfl
  rw [← E0]
  clear E0
  obtain ⟨W1, hW1⟩ : ∃ W1, w.alloc (seqC ep nx (List.replicate 13 (.slice none 0 0))) = W1 := ⟨_, rfl⟩
  have hz1 : W1.heap.size = w.heap.size + 1 := by rw [← hW1, World.size_alloc]
  have HW1 := Lib.hid (show Below w.heap.size w W1 from by rw [← hW1]; exact (Below.refl _ _).alloc (Nat.le_refl _) _)
  rw [hW1] at S0
  have O0 := Lib.hid (Own.new W1 W1.heap.size (Nat.le_refl _) _ rfl)
  have B0 := Lib.hid ((Below.refl W1.heap.size W1).alloc (Nat.le_refl _) (.cells #[] 3))
  have HZ1 := Lib.hid hz1
  rw [hz1] at O0
  rw [hW1]
  clear hW1 hz1
  go_loopw [9, 36] (fun u z wr => ∃ k : Nat, z = .int .i64 k ∧ k ≤ bs.length ∧ Hid (Own wr (w.heap.size + 1) u ((bs.take k).map (·.1))) ∧ Hid (Below W1.heap.size W1 wr) ∧ Hid (∀ b ∈ bs.take k, okA nx b.2)) (fun _ z _ => bs.length - (intOf z).toNat)
  case atStart => exact ⟨0, rfl, Nat.zero_le _, O0, B0, Lib.hid (by simp)⟩
  case round =>
    clear O0 B0
    obtain ⟨k, rfl, hk, hO, hBr, hS⟩ := hrel
    have BW := Lib.hid (HW1.out.trans (hBr.out.mono HW1.out.size))
    by_cases hlt : k < bs.length
    · obtain ⟨_, A1, c1, e1, hcA⟩ := (HV.out wr BW.out).form
      injection e1 with e1 _ e1c
      subst e1 e1c
      obtain ⟨b, o, ux, rfl, hbB, hx0, hx1, hr1⟩ := hcA k hlt
      have hr := Lib.hid hr1
      obtain ⟨_, Au, cu, rfl, hcell⟩ := row_ints hr1
      have i5 : (k : Int) < (bs.length : Int) := by omega
      have HM := Lib.hid (List.getElem_mem hlt)
      have HT := Lib.hid (List.take_succ_eq_append_getElem hlt)
      have hlk : ((bs.take k).map (·.1)).length ≤ 20 := by rw [List.length_map, List.length_take]; omega
      clear hr1 hcA
      generalize bs[k] = x at *
      obtain ⟨st, a⟩ := x
      simp only [] at hx0 hx1 hr hcell
      obtain ⟨wa, hwa⟩ : ∃ wa, wr.alloc (.cells #[.int .i64 st, .slice Au a.length cu] 51) = wa := ⟨_, rfl⟩
      have HA := Lib.hid (show Below wr.heap.size wr wa from by rw [← hwa]; exact (Below.refl _ _).alloc (Nat.le_refl _) _)
      have HAZ := Lib.hid (show wa.heap.size = wr.heap.size + 1 from by rw [← hwa, World.size_alloc])
      have HA0 := Lib.hid (show wa.heap[wr.heap.size]? = some (.cells #[.int .i64 st, .slice Au a.length cu] 51 (0, 0)) from by rw [← hwa]; exact heap_alloc_new wr _)
      have HBr1 : w.heap.size + 1 ≤ wa.heap.size := by have := HAZ.out; have := hBr.out.size; have := HZ1.out; omega
      have HOA := Lib.hid (hO.out.below HA.out)
      have d0 := cell_of_row _ _ 0 _ _ _ HA0.out
      have d1 := cell_of_row _ _ 1 _ _ _ HA0.out
      go_wp2_with (at_builtin; refine wpList_push rfl (.tmp 40) (.tmp 43) rfl st rfl rfl HOA.out (by omega) HBr1 ?_; intro u3 w3 h1 h2 h3; have O3 := Lib.hid h1; have F3 := Lib.hid (h2.heap HA0.out (fun e => by have := (hO.out.lt _ e).2; omega)); have B3 := Lib.hid (h3.mono (Nat.le_of_eq HZ1.out)); have K3 := Lib.hid h2; have e0 := cell_of_row _ _ 0 _ _ _ F3.out; have e1 := cell_of_row _ _ 1 _ _ _ F3.out; clear h1 h2 h3)
      clear d0 d1
      have R3 := Lib.hid (show Row w3 B (.slice Au a.length cu) (int64s a) from hr.out.keep (fun b' o' hb' => by
        have hlt1 : b' < wr.heap.size := by have := HB.out; have := BW.out.size; omega
        rw [K3.out.cell (p := ⟨b', o', none⟩) (by show b' < wa.heap.size; have := HAZ.out; omega) (fun e => by
          have := (hO.out.lt _ e).1
          have : w.heap.size + 1 ≤ b' := this
          have := HB.out
          omega)]
        exact HA.out.cell (p := ⟨b', o', none⟩) hlt1))
      obtain ⟨_, A3, c3, e3, hc3⟩ := row_ints R3.out
      injection e3 with e3 _ e3c
      subst e3 e3c
      have B9 := Lib.hid (show Below w.heap.size w w3 from HW1.out.trans ((hBr.out.trans (((HA.out).mono hBr.out.size).trans B3.out)).mono HW1.out.size))
      go_loop [12, 52] (fun ok z => ∃ j : Nat, z = .int .i64 j ∧ j ≤ a.length ∧ ∃ bk : Bool, ok = .bool bk ∧ Hid (bk = true ↔ okTo nx a j)) (fun _ z => a.length - (intOf z).toNat)
      case atStart =>
        refine ⟨0, rfl, Nat.zero_le _, _, rfl, Lib.hid ?_⟩
        simp only [decide_eq_true_eq]
        constructor
        · intro h
          exact ⟨by omega, fun i hi h0 => absurd h0 (Nat.not_lt_zero _)⟩
        · intro h
          have := h.1
          omega
      case round =>
        obtain ⟨j, rfl, hj, bk, rfl, hbk⟩ := hrel
        by_cases hlt2 : j < a.length
        · obtain ⟨ba, oa, rfl, _, hcu⟩ := hc3 j hlt2
          have i6 : (j : Int) < (a.length : Int) := by omega
          have HSt := Lib.hid (okTo_step (nx := (nx : Int)) hlt2)
          cases bk with
          | false =>
            have HN := Lib.hid (show (false = true ↔ okTo nx a (j + 1)) from ⟨fun h => (by cases h), fun h => absurd (hbk.out.2 (HSt.out.1 h).1) (by simp)⟩)
            generalize a[j] = y at *
            go_wp2_with fail
            go_round
            case rel => exact ⟨j + 1, by go_num, by omega, false, rfl, HN⟩
            case measure => simp [intOf]; omega
          | true =>
            have HOK := Lib.hid (hbk.out.1 rfl)
            by_cases hz : j = 0
            · subst hz
              have hcu0 : w3.cell? ⟨ba, oa, none⟩ = some (.int .i64 a[0]) := hcu
              clear hcu
              generalize a[0] = y at *
              by_cases g1 : y < 0
              · have HN := Lib.hid (show (false = true ↔ okTo nx a (0 + 1)) from ⟨fun h => (by cases h), fun h => by have := (HSt.out.1 h).2.1; omega⟩)
                go_wp2_with fail
                go_round
                case rel => exact ⟨0 + 1, by go_num, by omega, false, rfl, HN⟩
                case measure => simp [intOf]; omega
              · by_cases g2 : y < (nx : Int)
                · have HN := Lib.hid (show (true = true ↔ okTo nx a (0 + 1)) from ⟨fun _ => HSt.out.2 ⟨HOK.out, by omega, g2, fun h => absurd h (Nat.lt_irrefl _)⟩, fun _ => rfl⟩)
                  go_wp2_with fail
                  go_round
                  case rel => exact ⟨0 + 1, by go_num, by omega, true, rfl, HN⟩
                  case measure => simp [intOf]; omega
                · have HN := Lib.hid (show (false = true ↔ okTo nx a (0 + 1)) from ⟨fun h => (by cases h), fun h => absurd (HSt.out.1 h).2.2.1 g2⟩)
                  go_wp2_with fail
                  go_round
                  case rel => exact ⟨0 + 1, by go_num, by omega, false, rfl, HN⟩
                  case measure => simp [intOf]; omega
            · obtain ⟨b', o', e, _, hcp⟩ := hc3 (j - 1) (by omega)
              injection e with e
              injection e with e4 e5
              subst e4 e5
              generalize a[j - 1]'(by omega) = p at *
              generalize a[j] = y at *
              have z0 : ¬ (j : Int) = 0 := by omega
              have z1 : (j : Int) - 1 < (a.length : Int) := by omega
              have z2 : ((j : Int) == 0) = false := by simp; omega
              by_cases g1 : y < 0
              · have HN := Lib.hid (show (false = true ↔ okTo nx a (j + 1)) from ⟨fun h => (by cases h), fun h => by have := (HSt.out.1 h).2.1; omega⟩)
                go_wp2_with fail
                go_round
                case rel => exact ⟨j + 1, by go_num, by omega, false, rfl, HN⟩
                case measure => simp [intOf]; omega
              · by_cases g2 : y < (nx : Int)
                · by_cases g3 : y < p
                  · have HN := Lib.hid (show (true = true ↔ okTo nx a (j + 1)) from ⟨fun _ => HSt.out.2 ⟨HOK.out, by omega, g2, fun _ => g3⟩, fun _ => rfl⟩)
                    go_wp2_with fail
                    go_round
                    case rel => exact ⟨j + 1, by go_num, by omega, true, rfl, HN⟩
                    case measure => simp [intOf]; omega
                  · have HN := Lib.hid (show (false = true ↔ okTo nx a (j + 1)) from ⟨fun h => (by cases h), fun h => absurd ((HSt.out.1 h).2.2.2 (by omega)) g3⟩)
                    go_wp2_with fail
                    go_round
                    case rel => exact ⟨j + 1, by go_num, by omega, false, rfl, HN⟩
                    case measure => simp [intOf]; omega
                · have HN := Lib.hid (show (false = true ↔ okTo nx a (j + 1)) from ⟨fun h => (by cases h), fun h => absurd (HSt.out.1 h).2.2.1 g2⟩)
                  go_wp2_with fail
                  go_round
                  case rel => exact ⟨j + 1, by go_num, by omega, false, rfl, HN⟩
                  case measure => simp [intOf]; omega
        · cases bk with
          | false =>
            go_wp2_with fail
            go_ret2
            refine ⟨B9.out, .inr ⟨fun h => ?_, rfl⟩⟩
            have h2 := h.1 _ HM.out
            have := hbk.out.2 ⟨h2.1, fun i hi _ => h2.2 i hi hi⟩
            cases this
          | true =>
            have HOK := Lib.hid (show okA nx a from by
              have h := hbk.out.1 rfl
              exact ⟨h.1, fun i hi _ => h.2 i hi (by omega)⟩)
            have HS2 := Lib.hid (show ∀ b ∈ bs.take (k + 1), okA nx b.2 from fun b hb => by
              rw [HT.out] at hb
              rcases List.mem_append.1 hb with hb | hb
              · exact hS.out b hb
              · simp at hb; rw [hb]; exact HOK.out)
            have O4 := Lib.hid (show Own w3 (w.heap.size + 1) u3 ((bs.take (k + 1)).map (·.1)) from by rw [HT.out, List.map_append]; exact O3.out)
            have B4 := Lib.hid (show Below W1.heap.size W1 w3 from hBr.out.trans (((HA.out).mono hBr.out.size).trans B3.out))
            go_wp2_with fail
            go_roundw
            case rel => exact ⟨k + 1, by go_num, by omega, O4, B4, HS2⟩
            case measure => simp [intOf]; omega
    · have ek : bs.take k = bs := List.take_of_length_le (by omega)
      rw [ek] at hO hS
      have CR := Lib.hid (right13_any _ _ wr.heap.size wr hO.out.row)
      have S1 := Lib.hid (S0.out.below hBr.out)
      clear S0
      cases hu : upB (bs.map (·.1)) with
      | false =>
        rw [hu] at CR
        go_wp2_with fail
        refine CR.out.mono ?_
        rintro en w1 ⟨rfl, rfl⟩
        clear CR
        go_wp2_with fail
        go_ret2
        exact ⟨BW.out, .inr ⟨fun h => (by rw [h.2] at hu; cases hu), rfl⟩⟩
      | true =>
        rw [hu] at CR
        have HU := Lib.hid (upB_mem hu)
        have HNO := Lib.hid (show newOk nx bs from ⟨hS.out, hu⟩)
        clear hu ek hS
        go_wp2_with fail
        refine CR.out.mono ?_
        rintro en w1 ⟨rfl, rfl⟩
        clear CR
        obtain ⟨i0, hi, hz0, hz1, hz2⟩ := info_parts infoInt
        have HI := Lib.hid hi
        clear hi
        go_wp2_with fail
        go_loopw [90] (fun z wr => ∃ k : Nat, z = .int .i64 k ∧ k ≤ bs.length ∧ Hid (Below w.heap.size w wr) ∧ Hid (∃ R us, SeqR wr R w.heap.size ⟨ep, nx, fillL (bs.take k)⟩ us ∧ ∀ k, R k → w.heap.size ≤ k)) (fun z _ => bs.length - (intOf z).toNat)
        case atStart => exact ⟨0, rfl, Nat.zero_le _, BW, Lib.hid ⟨_, _, S1.out, fun k h => by omega⟩⟩
        case round =>
          clear S1 hO hBr BW
          obtain ⟨k, rfl, hk, hBq, hSq⟩ := hrel
          by_cases hlt : k < bs.length
          · obtain ⟨_, A1, c1, e1, hcA⟩ := (HV.out wr hBq.out).form
            injection e1 with e1 _ e1c
            subst e1 e1c
            obtain ⟨b, o, ux, rfl, hbB, hx0, hx1, hr1⟩ := hcA k hlt
            have hr := Lib.hid hr1
            obtain ⟨_, Au, cu, rfl, _⟩ := row_ints hr1
            have i5 : (k : Int) < (bs.length : Int) := by omega
            obtain ⟨hx2, hx3⟩ := HU.out _ (List.mem_map.2 ⟨_, List.getElem_mem hlt, rfl⟩)
            have h4 := (HNO.out.1 _ (List.getElem_mem hlt)).1
            have HT := Lib.hid (show fillL (bs.take (k + 1)) = (fillL (bs.take k)).set bs[k].1.toNat bs[k].2 from by rw [List.take_succ_eq_append_getElem hlt, fill_snoc])
            clear hr1 hcA
            generalize bs[k] = x at *
            obtain ⟨st, a⟩ := x
            simp only [] at hx0 hx1 hr hx2 hx3 h4 HT
            obtain ⟨y, rfl⟩ : ∃ y : Nat, st = (y : Int) := ⟨st.toNat, by omega⟩
            have hy13 : y < 13 := by omega
            have i13 : (y : Int) < 13 := by omega
            obtain ⟨R1, us, hS1, hR1⟩ := hSq.out
            have HR1 := Lib.hid hR1
            obtain ⟨wa, hwa⟩ : ∃ wa, wr.alloc (.cells #[.int .i64 (y : Int), .slice Au a.length cu] 51) = wa := ⟨_, rfl⟩
            have HA := Lib.hid (show Below wr.heap.size wr wa from by rw [← hwa]; exact (Below.refl _ _).alloc (Nat.le_refl _) _)
            have HA0 := Lib.hid (show wa.heap[wr.heap.size]? = some (.cells #[.int .i64 (y : Int), .slice Au a.length cu] 51 (0, 0)) from by rw [← hwa]; exact heap_alloc_new wr _)
            have S3 := Lib.hid (hS1.below HA.out)
            have hlt3 : wr.heap.size < wa.heap.size := (Array.getElem?_eq_some_iff.1 HA0.out).1
            have hg3 := S3.out.low w.heap.size S3.out.inR
            have d0 : wa.cell? ⟨wr.heap.size, 0, none⟩ = some (.int .i64 (y : Int)) := cell_of_row _ _ 0 _ _ _ HA0.out
            have d1 : wa.cell? ⟨wr.heap.size, 1, none⟩ = some (.slice Au a.length cu) := cell_of_row _ _ 1 _ _ _ HA0.out
            have BA := Lib.hid ((Below.refl wa.heap.size wa).alloc (Nat.le_refl _) (.cells #[] 3)).drew
            have XR := Lib.hid ((hr.out.keep (below_cells (HA.out.mono (Nat.le_trans HB.out hBq.out.size)))).keep (below_cells (BA.out.mono (Nat.le_trans (Nat.le_trans HB.out hBq.out.size) HA.out.size))))
            have f0 : (wa.alloc (.cells #[] 3)).cell? ⟨wr.heap.size, 0, none⟩ = some (.int .i64 (y : Int)) := by rw [World.cell?_alloc_lt wa _ ⟨wr.heap.size, 0, none⟩ hlt3]; exact d0
            have f1 : (wa.alloc (.cells #[] 3)).cell? ⟨wr.heap.size, 1, none⟩ = some (.slice Au a.length cu) := by rw [World.cell?_alloc_lt wa _ ⟨wr.heap.size, 1, none⟩ hlt3]; exact d1
            clear hS1 hR1
            go_wp2_with fail
            go_region_law (first
              | (refine step_append_row _ rfl (.tmp 97) (.tmp 99) _ rfl wa.heap.size 3 i0 (.int .i64 0) 8 Tryd.underlying37 HI.out hz0 hz1 hz2 rfl _ 0 [] rfl (own_new wa _ _ _ _ _ _ _ rfl (Nat.le_refl _) (Nat.le_refl _) (by unfold maxLen; omega) rfl rfl) B _ (int64s a) rfl XR.out (ints_one a) ?_ ?_ ?_ ?_; (rw [int64s_length]; unfold maxLen; omega); (rw [int64s_length]; omega); (simp); intro v4 w4 h1 h2 h3 h4; have h9 : Own w4 wa.heap.size v4 a := (by unfold Own; rw [int64s_length, Nat.zero_add] at h1; exact h1); obtain ⟨A4, n4, c4, rfl⟩ := h9.form; obtain ⟨e1, ⟨e2, e3⟩, e4, E4⟩ := S3.out.push hy13 rfl h9 (BA.out.trans h4); have e5 : w4.cell? ⟨wr.heap.size, 0, none⟩ = some (.int .i64 (y : Int)) := ((BA.out.trans h4).cell (p := ⟨wr.heap.size, 0, none⟩) hlt3).trans d0; clear h1 h2 h3 h4 h9))
            all_goals
              have B5 := Lib.hid (show Below w.heap.size w (w4.setCell ⟨w.heap.size, 2 + y, none⟩ (.slice A4 n4 c4)) from Tide.Below.kept (Tide.Below.kept hBq.out (Kept.of_below (F := fun _ => False) HA.out) hBq.out.size (fun _ h => h.elim)) E4.out.2.1 (Nat.le_trans hBq.out.size HA.out.size) (fun i h => Nat.le_of_eq h.symm))
              have S5 := Lib.hid (show ∃ R us, SeqR (w4.setCell ⟨w.heap.size, 2 + y, none⟩ (.slice A4 n4 c4)) R w.heap.size ⟨ep, nx, fillL (bs.take (k + 1))⟩ us ∧ ∀ k, R k → w.heap.size ≤ k from by
                rw [HT.out]
                refine ⟨_, _, E4.out.1, fun k h => h.elim (HR1.out k) (fun h => ?_)⟩
                have := E4.out.2.2 k h
                omega)
              generalize World.setCell w4 ⟨w.heap.size, 2 + y, none⟩ (.slice A4 n4 c4) = w5 at *
              clear e1 e2 e3 e4 e5 d0 d1 f0 f1 E4
              go_wp2_with fail
              go_roundw
              case rel => exact ⟨k + 1, by go_num, by omega, B5, S5⟩
              case measure => simp [intOf]; omega
          · have ek : bs.take k = bs := List.take_of_length_le (by omega)
            rw [ek] at hSq
            go_wp2_with fail
            go_ret2
            refine ⟨hBq.out, .inl ⟨HNO.out, rfl, ?_⟩⟩
            obtain ⟨R, us, h, hR⟩ := hSq.out
            exact ⟨R, ⟨us, h⟩, hR⟩
end Go.Proofs.YtfgpjelnijeoaaaDoor
