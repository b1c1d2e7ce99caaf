/- Package page: the closure that asks of an address whether it stands below the one ahead of it; rightList; right. -/
import Derived.Test.YtcddgllckadodaaDoorGPgD
import Derived.Test.YtcddgllckadodaaDoorGPackN
import Derived.Test.YtcddgllckadodaaDoorGPackIm
import Derived.OneCell
import Derived.WalkKit
import Derived.WalkSpells
import Derived.Deep.QuietTactic
import Derived.BigQuiet
import Derived.Deep.RegionHeld
namespace Go.Proofs.YtcddgllckadodaaDoor
open Go.RowKit Tide

/-- A block of one number. -/
def One (W : World) (g : Nat) (b : Int) : Prop := W.heap[g]? = some (.cells #[.int .i64 b] 3 (0, 0))

theorem next_any (x b : Int) (g : Nat) (w : World) (h : One w g b) :
    Calls Tryd.prog 42 #[.int .i64 x, .pointer (some ⟨g, 0, none⟩)] w fun e w' => e = .returned (.bool (decide (0 ≤ x) && decide (x < b))) ∧ w' = w.setCell ⟨g, 0, none⟩ (.int .i64 x) := by
  have hc := cell_of_one h
  have hf := free_of_one h
  clear h
  cases h0 : decide (0 ≤ x) <;> cases h1 : decide (x < b)
  all_goals
    go_enter Tryd.func42, Tryd.ntmps42
    go_wp2_with fail
    go_ret
    exact ⟨rfl, rfl⟩

theorem falling_any (w : World) : Calls Tryd.prog 39 #[] w fun e w' => e = .returned (.func (.func 42) #[] #[.pointer (some ⟨w.heap.size, 0, none⟩)]) ∧ One w' w.heap.size 4096 ∧ Below w.heap.size w w' := by
  have hmf : ∀ (fn : Fn) (first cap : Array Value) (w : World), (Instr.makeFunc fn first cap).run Tryd.prog w = .ok (.func fn first cap) w := fun _ _ _ _ => rfl
  go_enter Tryd.func39, Tryd.ntmps39
  go_wp2_with fail
  go_ret
  exact ⟨rfl, heap_alloc_new w _, (Below.refl _ _).alloc (Nat.le_refl _) _⟩

theorem rightList_any (l : List Int) (v : Value) (B : Nat) (w : World) (hv : Row w B v (int64s l)) (hB : B ≤ w.heap.size) :
    Calls Tryd.prog 30 #[v] w fun e w' => e = .returned (.bool (rightLB l)) ∧ Below w.heap.size w w' := by
  have hlen : l.length ≤ 9223372036854775807 := by have := hv.1; rwa [int64s_length] at this
  obtain ⟨A, c, rfl, hcell⟩ := ints_row hv
  have HC := Lib.hid hcell
  clear hv hcell
  have CF := Lib.hid (falling_any w)
  cases h4 : decide ((4 : Int) < (l.length : Int)) with
  | true =>
    have HR := Lib.hid (show rightLB l = false from by unfold rightLB; rw [h4]; rfl)
    go_enter Tryd.func30, Tryd.ntmps30
    go_wp2_with fail
    go_ret
    exact ⟨by rw [HR.out] <;> rfl, Below.refl _ _⟩
  | false =>
    have HR := Lib.hid (show rightLB l = fallB 4096 l from by unfold rightLB; rw [h4]; rfl)
    go_enter Tryd.func30, Tryd.ntmps30
    go_wp2_with fail
    refine CF.out.mono ?_
    rintro en w1 ⟨rfl, ho, hb⟩
    have HO := Lib.hid ho
    have HB1 := Lib.hid hb
    clear ho hb CF
    go_wp2_with fail
    go_loopw [12] (fun i wr => ∃ (k : Nat) (b : Int), i = .int .i64 k ∧ k ≤ l.length ∧ Hid (rightLB l = fallB b (l.drop k)) ∧ Hid (One wr w.heap.size b) ∧ Hid (Below w.heap.size w wr)) (fun i _ => l.length - (intOf i).toNat)
    case atStart => exact ⟨0, 4096, rfl, Nat.zero_le _, Lib.hid HR.out, HO, HB1⟩
    case round =>
      obtain ⟨k, b, rfl, hk, hF, hO, hBr⟩ := hrel
      by_cases hlt : k < l.length
      · obtain ⟨bb, o, rfl, hbl, hc⟩ := HC.out k hlt
        have hbw : bb < w.heap.size := Nat.lt_of_lt_of_le hbl hB
        have hc1 : wr.cell? ⟨bb, o + k, none⟩ = some (.int .i64 l[k]) := (hBr.out.cell (p := ⟨bb, o + k, none⟩) hbw).trans (hc k hlt)
        have HD := Lib.hid (fall_drop b l k hlt)
        clear hc
        generalize l[k] = x at *
        have CN := next_any x b w.heap.size wr hO.out
        cases ht : (decide (0 ≤ x) && decide (x < b)) with
        | true =>
          rw [ht] at CN
          have HN := Lib.hid CN
          have HF2 := Lib.hid (show rightLB l = fallB x (l.drop (k + 1)) from by rw [hF.out, HD.out, ht, Bool.true_and])
          clear CN ht
          go_wp2_with fail
          refine HN.out.mono ?_
          rintro en w2 ⟨rfl, rfl⟩
          have HO2 := Lib.hid (show One (wr.setCell ⟨w.heap.size, 0, none⟩ (.int .i64 x)) w.heap.size x from one_setCell hO.out)
          have HB2 := Lib.hid (hBr.out.setCell (p := ⟨w.heap.size, 0, none⟩) (Nat.le_refl _) (.int .i64 x))
          go_wp2_with fail
          go_roundw
          case rel => exact ⟨k + 1, x, by go_num, by omega, HF2, HO2, HB2⟩
          case measure => simp [intOf]; omega
        | false =>
          rw [ht] at CN
          have HN := Lib.hid CN
          have HF2 := Lib.hid (show rightLB l = false from by rw [hF.out, HD.out, ht, Bool.false_and])
          have HB2 := Lib.hid (hBr.out.setCell (p := ⟨w.heap.size, 0, none⟩) (Nat.le_refl _) (.int .i64 x))
          clear CN ht
          go_wp2_with fail
          refine HN.out.mono ?_
          rintro en w2 ⟨rfl, rfl⟩
          go_wp2_with fail
          go_ret
          exact ⟨by rw [HF2.out] <;> rfl, HB2.out⟩
      · have HF2 := Lib.hid (show rightLB l = true from by rw [hF.out, List.drop_eq_nil_of_le (by omega)]; rfl)
        go_wp2_with fail
        go_ret
        exact ⟨by rw [HF2.out] <;> rfl, hBr.out⟩
end Go.Proofs.YtcddgllckadodaaDoor

/- Package page's right: a right list of each stream, in order. -/
namespace Go.Proofs.YtcddgllckadodaaDoor
open Go.RowKit Tide

theorem ints64_row {w : World} {B : Nat} {v : Value} {zs : List Int} (h : Row w B v (int64s zs)) : ∃ A c, v = .slice A zs.length c := by
  obtain ⟨_, A, c, rfl, _⟩ := h
  exact ⟨A, c, by rw [int64s_length]⟩
set_option maxRecDepth 100000 in
set_option maxHeartbeats 2000000 in
theorem pright_any (ds : List BackD) (ss : List Int) (v u : Value) (B B2 : Nat) (w : World) (hv : Backs w B v ds) (hu : Row w B2 u (int64s ss)) (hB : B ≤ w.heap.size) (hB2 : B2 ≤ w.heap.size) :
    Calls Tryd.prog 16 #[v, u] w fun e w' => e = .returned (.bool (rightBs ds ss)) ∧ Below w.heap.size w w' := by
  have hlen2 : ss.length ≤ 9223372036854775807 := by have := hu.1; rwa [int64s_length] at this
  obtain ⟨A, c, rfl, hlen, hcell⟩ := hv.form
  obtain ⟨A2, c2, rfl, hcell2⟩ := ints_row hu
  have HC := Lib.hid hcell
  have HC2 := Lib.hid hcell2
  have HB := Lib.hid hB
  have HB2 := Lib.hid hB2
  clear hv hu hcell hcell2 hB hB2
  by_cases hne : ds.length = ss.length
  · have q0 : ((ds.length : Int) == (ss.length : Int)) = true := by rw [hne]; simp
    have q1 : ((ds.length : Int) != (ss.length : Int)) = false := by rw [hne]; simp
    have HNE := Lib.hid hne
    clear hne
    go_enter Tryd.func16, Tryd.ntmps16
    go_wp2_with fail
    clear q0 q1
    go_loopw [14] (fun i wr => ∃ k : Nat, i = .int .i64 k ∧ k ≤ ds.length ∧ Hid (rightBs ds ss = rightBs (ds.drop k) (ss.drop k)) ∧ Hid (Below w.heap.size w wr)) (fun i _ => ds.length - (intOf i).toNat)
    case atStart => exact ⟨0, rfl, Nat.zero_le _, Lib.hid rfl, Lib.hid (Below.refl _ _)⟩
    case round =>
      obtain ⟨k, rfl, hk, hF, hBr⟩ := hrel
      by_cases hlt : k < ds.length
      · have hlt2 : k < ss.length := by have := HNE.out; omega
        obtain ⟨bb, o, uu, rfl, hbl, h0, h1, hr⟩ := HC.out k hlt
        obtain ⟨bb2, o2, rfl, hbl2, hc2⟩ := HC2.out k hlt2
        have hbw : bb < w.heap.size := Nat.lt_of_lt_of_le hbl HB.out
        have hbw2 : bb2 < w.heap.size := Nat.lt_of_lt_of_le hbl2 HB2.out
        obtain ⟨Au, cu, rfl⟩ := ints64_row hr
        have HRow := Lib.hid hr
        have hws := hBr.out.size
        have f0 := (hBr.out.cell (p := ⟨bb, o + k * 2, none⟩) hbw).trans h0
        have f1 := (hBr.out.cell (p := ⟨bb, o + k * 2 + 1, none⟩) hbw).trans h1
        have f2 : wr.cell? ⟨bb2, o2 + k, none⟩ = some (.int .i64 ss[k]) := (hBr.out.cell (p := ⟨bb2, o2 + k, none⟩) hbw2).trans (hc2 k hlt2)
        have HD := Lib.hid (rights_drop ds ss k hlt hlt2)
        have hl1 : bb < wr.heap.size := by omega
        have hl2 : bb2 < wr.heap.size := by omega
        have i1 : (k : Int) < (ss.length : Int) := by omega
        clear h0 h1 hc2 hr
        generalize ds[k] = d at *
        generalize ss[k] = s at *
        obtain ⟨st, zs⟩ := d
        simp only at *
        have W1 := Lib.hid (show Below w.heap.size w (wr.alloc (.cells #[.int .i64 st, .slice Au zs.length cu] 43)) from hBr.out.alloc hws _)
        have KX := Lib.hid (show ∀ W, Below (wr.heap.size + 1) (wr.alloc (.cells #[.int .i64 st, .slice Au zs.length cu] 43)) W → W.cell? ⟨wr.heap.size, 0, none⟩ = some (.int .i64 st) ∧ W.cell? ⟨wr.heap.size, 1, none⟩ = some (.slice Au zs.length cu) ∧ W.cell? ⟨bb2, o2 + k, none⟩ = some (.int .i64 s) from fun W h => by
          refine ⟨?_, ?_, ?_⟩
          · rw [h.cell (p := ⟨wr.heap.size, 0, none⟩) (Nat.lt_succ_self _), cell_of_row _ _ 0 _ _ _ (heap_alloc_new wr _)]; rfl
          · rw [h.cell (p := ⟨wr.heap.size, 1, none⟩) (Nat.lt_succ_self _), cell_of_row _ _ 1 _ _ _ (heap_alloc_new wr _)]; rfl
          · rw [h.cell (p := ⟨bb2, o2 + k, none⟩) (by show bb2 < _; omega), World.cell?_alloc_past _ _ _ (by simpa using hl2)]; exact f2)
        by_cases hs : st = s
        · have q0 : (st == s) = true := by simp [hs]
          have q1 : (st != s) = false := by simp [hs]
          have HF2 := Lib.hid (show rightBs ds ss = (rightLB zs && rightBs (ds.drop (k + 1)) (ss.drop (k + 1))) from by rw [hF.out, HD.out, decide_eq_true hs, Bool.true_and])
          have D0 := Lib.hid ((Below.refl (wr.heap.size + 1) (wr.alloc (.cells #[.int .i64 st, .slice Au zs.length cu] 43))).drew)
          have hs1 : (wr.alloc (.cells #[.int .i64 st, .slice Au zs.length cu] 43)).heap.size = wr.heap.size + 1 := by simp
          have CR := Lib.hid (fun W (h : Below (wr.heap.size + 1) (wr.alloc (.cells #[.int .i64 st, .slice Au zs.length cu] 43)) W) => rightList_any zs (.slice Au zs.length cu) B W (Row.keep HRow.out (below_cells ((W1.out.trans (h.mono (by omega))).mono HB.out))) (Nat.le_trans HB.out (W1.out.trans (h.mono (by omega))).size))
          have UP := Lib.hid (show ∀ W, Below (wr.heap.size + 1) (wr.alloc (.cells #[.int .i64 st, .slice Au zs.length cu] 43)) W → Below w.heap.size w W from fun W h => W1.out.trans (h.mono (by omega)))
          clear hs
          cases hz : rightLB zs with
          | true =>
            rw [hz] at CR HF2
            clear hz
            go_wp2_with fail
            generalize wr.alloc (.cells #[.int .i64 st, .slice Au zs.length cu] 43) = w1 at *
            go_region_held (fun W => W.cell? ⟨wr.heap.size, 0, none⟩ = some (.int .i64 st) ∧ W.cell? ⟨wr.heap.size, 1, none⟩ = some (Value.slice Au zs.length cu) ∧ W.cell? ⟨bb2, o2 + k, none⟩ = some (.int .i64 s))
              (first | exact KX.out _ D0.out | exact KX.out _ D1.out | assumption)
              (first
                | (go_at_call 30; (with_reducible refine (CR.out _ ?_).mono ?_); exact D0.out; rintro en w6 ⟨rfl, hb⟩; have D1 := Lib.hid (D0.out.trans (hb.mono (by have := D0.out.size; omega))); clear hb))
            all_goals
              go_wp2_with fail
              go_roundw
              case rel => exact ⟨k + 1, by go_num, by omega, Lib.hid (by rw [HF2.out, Bool.true_and]), Lib.hid (UP.out _ D1.out)⟩
              case measure => simp [intOf]; omega
          | false =>
            rw [hz] at CR HF2
            clear hz
            go_wp2_with fail
            generalize wr.alloc (.cells #[.int .i64 st, .slice Au zs.length cu] 43) = w1 at *
            go_region_held (fun W => W.cell? ⟨wr.heap.size, 0, none⟩ = some (.int .i64 st) ∧ W.cell? ⟨wr.heap.size, 1, none⟩ = some (Value.slice Au zs.length cu) ∧ W.cell? ⟨bb2, o2 + k, none⟩ = some (.int .i64 s))
              (first | exact KX.out _ D0.out | exact KX.out _ D1.out | assumption)
              (first
                | (go_at_call 30; (with_reducible refine (CR.out _ ?_).mono ?_); exact D0.out; rintro en w6 ⟨rfl, hb⟩; have D1 := Lib.hid (D0.out.trans (hb.mono (by have := D0.out.size; omega))); clear hb))
            all_goals
              go_wp2_with fail
              go_ret
              exact ⟨by rw [HF2.out] <;> rfl, UP.out _ D1.out⟩
        · have q0 : (st == s) = false := by simp [hs]
          have q1 : (st != s) = true := by simp [hs]
          have HF2 := Lib.hid (show rightBs ds ss = false from by rw [hF.out, HD.out, decide_eq_false hs, Bool.false_and, Bool.false_and])
          have HW1 := Lib.hid W1.out
          clear hs
          go_wp2_with fail
          obtain ⟨k0, k1, k2⟩ := KX.out _ (Below.refl _ _)
          generalize wr.alloc (.cells #[.int .i64 st, .slice Au zs.length cu] 43) = w1 at *
          go_quiet (fail)
          go_wp2_with fail
          go_ret
          exact ⟨by rw [HF2.out] <;> rfl, ⟨HW1.out.os, HW1.out.tape, HW1.out.output, HW1.out.size, HW1.out.block⟩⟩
      · have HF2 := Lib.hid (show rightBs ds ss = true from by
          rw [hF.out, List.drop_eq_nil_of_le (by omega), List.drop_eq_nil_of_le (by have := HNE.out; omega)]; rfl)
        go_wp2_with fail
        go_ret
        exact ⟨by rw [HF2.out] <;> rfl, hBr.out⟩
  · have q0 : ((ds.length : Int) == (ss.length : Int)) = false := by simp; omega
    have q1 : ((ds.length : Int) != (ss.length : Int)) = true := by simp; omega
    have HF := Lib.hid (rights_len ds ss hne)
    clear hne
    go_enter Tryd.func16, Tryd.ntmps16
    go_wp2_with fail
    go_ret
    exact ⟨by rw [HF.out] <;> rfl, Below.refl _ _⟩
end Go.Proofs.YtcddgllckadodaaDoor

/- Package page's Read, of bytes that are too many or whose first two numbers can't be read. -/
namespace Go.Proofs.YtcddgllckadodaaDoor
open Go.RowKit Tide

theorem below_set {W w : World} (h : Below W.heap.size W w) (i : Nat) (v : Value) : Below W.heap.size W (w.setCell ⟨W.heap.size, i, none⟩ v) := h.setCell (p := ⟨W.heap.size, i, none⟩) (Nat.le_refl _) v
/-- The number of the error, less one. -/
def badN (l : List UInt8) (k : Nat) : Prop := if 2048 < l.length then k = 2 else (twoE l).2.1 = k + 1
set_option maxRecDepth 100000 in
set_option maxHeartbeats 2000000 in
theorem read_bad (a : Nat → Addr) (v : Value) (B : Nat) (l : List UInt8) (k : Nat) (w : World) (hv : Bytes w B v l) (hB : B ≤ w.heap.size) (hl : l.length ≤ 100000) (hk : badN l k) (hE : Errs w a) :
    Calls Tryd.prog 7 #[v] w fun e w' => (∃ y, e = .returned (.tuple #[.agg #[.int .i64 0, .int .i64 0, .int .i64 0, .int .i64 0, .int .i64 0, .int .i64 0, .slice none 0 0, .string ⟨#[]⟩, .int .i64 0, .int .i64 0, .int .i64 0, .slice none 0 0], .slice none 0 0, y]) ∧ IsErr a y (k + 1)) ∧ Below w.heap.size w w' := by
  obtain ⟨w1, hw1⟩ : ∃ w1, w1 = w.alloc (.cells #[.int .i64 0, .int .i64 0, .int .i64 0, .int .i64 0, .int .i64 0, .int .i64 0, .slice none 0 0, .string ⟨#[]⟩, .int .i64 0, .int .i64 0, .int .i64 0, .slice none 0 0] 25) := ⟨_, rfl⟩
  have HB1 := Lib.hid (show Below w.heap.size w w1 from by rw [hw1]; exact (Below.refl _ _).alloc (Nat.le_refl _) _)
  have hs1 : w1.heap.size = w.heap.size + 1 := by rw [hw1]; simp
  have hh1 : w1.heap[w.heap.size]? = some (.cells #[.int .i64 0, .int .i64 0, .int .i64 0, .int .i64 0, .int .i64 0, .int .i64 0, .slice none 0 0, .string ⟨#[]⟩, .int .i64 0, .int .i64 0, .int .i64 0, .slice none 0 0] 25 (0, 0)) := by rw [hw1]; exact heap_alloc_new w _
  have CEL := Lib.hid (show ∀ W, Below (w.heap.size + 1) w1 W → (∀ j, W.frozen? ⟨w.heap.size, j, none⟩ = false) ∧ ∀ j v, (#[Value.int .i64 0, Value.int .i64 0, Value.int .i64 0, Value.int .i64 0, Value.int .i64 0, Value.int .i64 0, Value.slice none 0 0, Value.string ⟨#[]⟩, Value.int .i64 0, Value.int .i64 0, Value.int .i64 0, Value.slice none 0 0])[j]? = some v → W.cell? ⟨w.heap.size, j, none⟩ = some v from fun W h => by
    have hh := (h.block w.heap.size (Nat.lt_succ_self _)).trans hh1
    exact ⟨fun j => by simp [World.frozen?, hh], fun j v hv => (cell_of_row W w.heap.size j _ _ _ hh).trans hv⟩)
  have HE1 := Lib.hid (hE.below HB1.out)
  have hg2 := HE1.out.var 2 (by omega)
  simp only [evars, List.getD_cons_zero, List.getD_cons_succ] at hg2
  have hglt : 0 < w.heap.size := World.block_lt_of_cell? _ _ (hE.var 2 (by omega))
  have hgne : ¬ 0 = w.heap.size := by omega
  have CP := Lib.hid (fun (h : (twoE l).2.1 = k + 1) => parts_bad a v B l k w1 (hv.below (HB1.out.mono hB)) (Nat.le_trans hB HB1.out.size) hl h HE1.out)
  obtain ⟨A, c, rfl, _, _, _⟩ := hv.form
  clear hv hE hl
  by_cases hlong : 2048 < l.length
  · have hk2 : k = 2 := by unfold badN at hk; rwa [if_pos hlong] at hk
    subst hk2
    have q : decide ((2048 : Int) < (l.length : Int)) = true := decide_eq_true (by omega)
    obtain ⟨fz, hcell⟩ := CEL.out w1 (Below.refl _ _)
    have d0 : w1.cell? ⟨w.heap.size, 0, none⟩ = some (.int .i64 0) := hcell 0 _ rfl
    have d1 : w1.cell? ⟨w.heap.size, 1, none⟩ = some (.int .i64 0) := hcell 1 _ rfl
    have d2 : w1.cell? ⟨w.heap.size, 2, none⟩ = some (.int .i64 0) := hcell 2 _ rfl
    have d3 : w1.cell? ⟨w.heap.size, 3, none⟩ = some (.int .i64 0) := hcell 3 _ rfl
    have d4 : w1.cell? ⟨w.heap.size, 4, none⟩ = some (.int .i64 0) := hcell 4 _ rfl
    have d5 : w1.cell? ⟨w.heap.size, 5, none⟩ = some (.int .i64 0) := hcell 5 _ rfl
    have d6 : w1.cell? ⟨w.heap.size, 6, none⟩ = some (.slice none 0 0) := hcell 6 _ rfl
    have d7 : w1.cell? ⟨w.heap.size, 7, none⟩ = some (.string ⟨#[]⟩) := hcell 7 _ rfl
    have d8 : w1.cell? ⟨w.heap.size, 8, none⟩ = some (.int .i64 0) := hcell 8 _ rfl
    have d9 : w1.cell? ⟨w.heap.size, 9, none⟩ = some (.int .i64 0) := hcell 9 _ rfl
    have d10 : w1.cell? ⟨w.heap.size, 10, none⟩ = some (.int .i64 0) := hcell 10 _ rfl
    have d11 : w1.cell? ⟨w.heap.size, 11, none⟩ = some (.slice none 0 0) := hcell 11 _ rfl
    clear hcell
    have hlt : w.heap.size < w1.heap.size := by omega
    clear hk hh1 CP
    go_enter Tryd.func7, Tryd.ntmps7
    go_wp2_with fail
    rw [← hw1]
    clear hw1
    go_region
    all_goals
      go_wp2_with fail
      exact bodyPost_ret (v := .tuple #[.agg #[.int .i64 0, .int .i64 0, .int .i64 0, .int .i64 0, .int .i64 0, .int .i64 0, .slice none 0 0, .string ⟨#[]⟩, .int .i64 0, .int .i64 0, .int .i64 0, .slice none 0 0], .slice none 0 0, errAt (a 2)]) (by simp [results, Tryd.results7, go_sem, d0, d1, d2, d3, d4, d5, d6, d7, d8, d9, d10, d11]) rfl ⟨⟨_, rfl, isErr_at a 2 (by omega)⟩, by
        with_reducible refine Below.drew ?_
        repeat (with_reducible refine below_set ?_ _ _)
        with_reducible exact HB1.out⟩
  · have hk2 : (twoE l).2.1 = k + 1 := by unfold badN at hk; rwa [if_neg hlong] at hk
    have CP2 := Lib.hid (CP.out hk2)
    have q : decide ((2048 : Int) < (l.length : Int)) = false := decide_eq_false (by omega)
    clear hk hk2 CP hg2
    go_enter Tryd.func7, Tryd.ntmps7
    go_wp2_with fail
    rw [← hw1]
    clear hw1 hh1
    refine CP2.out.mono ?_
    rintro en w2 ⟨⟨z, x, rfl, hx⟩, hb⟩
    have HX := Lib.hid hx
    have HB2 := Lib.hid (HB1.out.trans (hb.mono (by omega)))
    obtain ⟨b, rfl⟩ : ∃ b, x = errAt b := by
      rcases hx with ⟨h, _⟩ | ⟨m, _, _, h⟩
      · cases h
      · exact ⟨_, h⟩
    obtain ⟨fz, hcell⟩ := CEL.out w2 (hs1 ▸ hb)
    have d0 : w2.cell? ⟨w.heap.size, 0, none⟩ = some (.int .i64 0) := hcell 0 _ rfl
    have d1 : w2.cell? ⟨w.heap.size, 1, none⟩ = some (.int .i64 0) := hcell 1 _ rfl
    have d2 : w2.cell? ⟨w.heap.size, 2, none⟩ = some (.int .i64 0) := hcell 2 _ rfl
    have d3 : w2.cell? ⟨w.heap.size, 3, none⟩ = some (.int .i64 0) := hcell 3 _ rfl
    have d4 : w2.cell? ⟨w.heap.size, 4, none⟩ = some (.int .i64 0) := hcell 4 _ rfl
    have d5 : w2.cell? ⟨w.heap.size, 5, none⟩ = some (.int .i64 0) := hcell 5 _ rfl
    have d6 : w2.cell? ⟨w.heap.size, 6, none⟩ = some (.slice none 0 0) := hcell 6 _ rfl
    have d7 : w2.cell? ⟨w.heap.size, 7, none⟩ = some (.string ⟨#[]⟩) := hcell 7 _ rfl
    have d8 : w2.cell? ⟨w.heap.size, 8, none⟩ = some (.int .i64 0) := hcell 8 _ rfl
    have d9 : w2.cell? ⟨w.heap.size, 9, none⟩ = some (.int .i64 0) := hcell 9 _ rfl
    have d10 : w2.cell? ⟨w.heap.size, 10, none⟩ = some (.int .i64 0) := hcell 10 _ rfl
    have d11 : w2.cell? ⟨w.heap.size, 11, none⟩ = some (.slice none 0 0) := hcell 11 _ rfl
    have hlt2 : w.heap.size < w2.heap.size := by have := hb.size; omega
    clear hx hb hcell CP2
    go_wp2_with fail
    exact bodyPost_ret (v := .tuple #[.agg #[.int .i64 0, .int .i64 0, .int .i64 0, .int .i64 0, .int .i64 0, .int .i64 0, .slice none 0 0, .string ⟨#[]⟩, .int .i64 0, .int .i64 0, .int .i64 0, .slice none 0 0], .slice none 0 0, errAt b]) (by simp [results, Tryd.results7, go_sem, d0, d1, d2, d3, d4, d5, d6, d7, d8, d9, d10, d11]) rfl ⟨⟨_, rfl, HX.out⟩, by
      repeat (with_reducible refine below_set ?_ _ _)
      with_reducible exact HB2.out⟩
end Go.Proofs.YtcddgllckadodaaDoor
