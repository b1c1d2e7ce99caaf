/- What tidewaternum.Num answers: nought at nil, an error's number at each of the nineteen errors. -/
import Derived.Test.YtfgpjelnijeoaaaDoorErr
namespace Go.Proofs.YtfgpjelnijeoaaaDoor
open Go.RowKit Tide

/-- The variables of the nineteen errors, in the order of their numbers. -/
def evars : List Nat := [1, 3, 4, 2, 5, 6, 7, 8, 9, 10, 11, 12, 13, 0, 14, 15, 16, 17, 18]
/-- The nineteen errors lie at these addresses, each apart from each. -/
structure Errs (w : World) (a : Nat → Addr) : Prop where
  var : ∀ i, i < 19 → w.cell? ⟨evars.getD i 0, 0, none⟩ = some (errAt (a i))
  lies : ∀ i, i < 19 → Lies w (a i)
  apart : ∀ i j, i < 19 → j < 19 → i ≠ j → a i ≠ a j
theorem Lies.lt {w : World} {a : Addr} (h : Lies w a) : a.block < w.heap.size := by
  obtain ⟨c, t, h⟩ := h
  rcases Nat.lt_or_ge a.block w.heap.size with hlt | hge
  · exact hlt
  · rw [Array.getElem?_eq_none hge] at h; cases h
theorem Lies.below {w w' : World} {a : Addr} (h : Lies w a) (hb : Below w.heap.size w w') : Lies w' a := by
  have hl := h.lt
  obtain ⟨c, t, h⟩ := h
  exact ⟨c, t, (hb.block _ hl).trans h⟩
theorem Errs.below {w w' : World} {a : Nat → Addr} (h : Errs w a) (hb : Below w.heap.size w w') : Errs w' a :=
  ⟨fun i hi => (hb.cell (p := ⟨evars.getD i 0, 0, none⟩) (World.block_lt_of_cell? _ _ (h.var i hi))).trans (h.var i hi), fun i hi => (h.lies i hi).below hb, h.apart⟩
theorem Errs.alloc {w : World} {a : Nat → Addr} (h : Errs w a) (o : Obj) : Errs (w.alloc o) a := h.below ((Below.refl _ _).alloc (Nat.le_refl _) o)
theorem Errs.drewN {w : World} {a : Nat → Addr} (h : Errs w a) (n : Nat) : Errs (w.drewN n) a := ⟨h.var, h.lies, h.apart⟩
theorem Errs.drew {w : World} {a : Nat → Addr} (h : Errs w a) : Errs w.drew a := ⟨h.var, h.lies, h.apart⟩

theorem errs_cell (a : Nat → Addr) (w : World) (i : Nat) (hi : i < 19) : (w.alloc (.cells #[errAt (a 0), errAt (a 1), errAt (a 2), errAt (a 3), errAt (a 4), errAt (a 5), errAt (a 6), errAt (a 7), errAt (a 8), errAt (a 9), errAt (a 10), errAt (a 11), errAt (a 12), errAt (a 13), errAt (a 14), errAt (a 15), errAt (a 16), errAt (a 17), errAt (a 18)] 30)).cell? ⟨w.heap.size, i, none⟩ = some (errAt (a i)) := by
  rw [cell_of_row _ _ i _ _ _ (heap_alloc_new w _)]
  have e : (#[errAt (a 0), errAt (a 1), errAt (a 2), errAt (a 3), errAt (a 4), errAt (a 5), errAt (a 6), errAt (a 7), errAt (a 8), errAt (a 9), errAt (a 10), errAt (a 11), errAt (a 12), errAt (a 13), errAt (a 14), errAt (a 15), errAt (a 16), errAt (a 17), errAt (a 18)] : Array Value) = ((List.range 19).map fun i => errAt (a i)).toArray := rfl
  rw [e]
  simp [hi]

theorem num_nil (w : World) : Calls Tryd.prog 10 #[.nilIface] w fun e w' => e = .returned (.int .i64 0) ∧ w = w' := by
  go_enter Tryd.func10, Tryd.ntmps10
  go_wp2
  go_ret
  exact ⟨rfl, rfl⟩

set_option maxHeartbeats 1000000 in
set_option maxRecDepth 100000 in
theorem num_err (a : Nat → Addr) (m : Nat) (hm : m < 19) (w : World) (hE : Errs w a) :
    Calls Tryd.prog 10 #[errAt (a m)] w fun e w' => e = .returned (.int .i64 ((m : Int) + 1)) ∧ Below w.heap.size w w' := by
  have h0 := hE.var 0 (by omega)
  have h1 := hE.var 1 (by omega)
  have h2 := hE.var 2 (by omega)
  have h3 := hE.var 3 (by omega)
  have h4 := hE.var 4 (by omega)
  have h5 := hE.var 5 (by omega)
  have h6 := hE.var 6 (by omega)
  have h7 := hE.var 7 (by omega)
  have h8 := hE.var 8 (by omega)
  have h9 := hE.var 9 (by omega)
  have h10 := hE.var 10 (by omega)
  have h11 := hE.var 11 (by omega)
  have h12 := hE.var 12 (by omega)
  have h13 := hE.var 13 (by omega)
  have h14 := hE.var 14 (by omega)
  have h15 := hE.var 15 (by omega)
  have h16 := hE.var 16 (by omega)
  have h17 := hE.var 17 (by omega)
  have h18 := hE.var 18 (by omega)
  simp only [evars, List.getD_cons_zero, List.getD_cons_succ] at h0 h1 h2 h3 h4 h5 h6 h7 h8 h9 h10 h11 h12 h13 h14 h15 h16 h17 h18
  have HE := Lib.hid hE
  clear hE
  go_enter Tryd.func10, Tryd.ntmps10
  go_wp2
  have hcs := errs_cell a w
  have HC := Lib.hid hcs
  clear hcs h0 h1 h2 h3 h4 h5 h6 h7 h8 h9 h10 h11 h12 h13 h14 h15 h16 h17 h18
  go_loop [30] (fun i => ∃ k : Nat, k ≤ m ∧ i = .int .i64 k) (fun i => 19 - (intOf i).toNat)
  case atStart => exact ⟨0, Nat.zero_le _, rfl⟩
  case round =>
    obtain ⟨k, hk, rfl⟩ := hrel
    have hc := HC.out k (by omega)
    by_cases hkm : k = m
    · subst hkm
      go_wp2_with fail
      refine (is_self (a k) _).mono ?_
      rintro e w' ⟨rfl, rfl⟩
      go_wp2_with fail
      go_ret
      exact ⟨rfl, (Below.refl _ _).alloc (Nat.le_refl _) _⟩
    · have hne := HE.out.apart m k (by omega) (by omega) (fun e => hkm e.symm)
      have HN := Lib.hid hne
      clear hne
      go_wp2_with fail
      refine (is_not (a m) (a k) _ HN.out ?_ ?_).mono ?_
      · exact (HE.out.alloc _).lies m (by omega)
      · exact (HE.out.alloc _).lies k (by omega)
      rintro e w' ⟨rfl, rfl⟩
      go_wp2_with fail
      go_round
      case rel => exact ⟨k + 1, by omega, by go_num⟩
      case measure => simp [intOf]; omega
end Go.Proofs.YtfgpjelnijeoaaaDoor
