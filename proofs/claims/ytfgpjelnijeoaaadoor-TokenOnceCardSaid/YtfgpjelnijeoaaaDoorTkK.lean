/- Package token: which streams rise, which addresses fall, which backs are right. -/
import Derived.Test.YtfgpjelnijeoaaaDoorTkH
namespace Go.Proofs.YtfgpjelnijeoaaaDoor
open Go Go.RowKit Tide

/-- What a walk over a list remembers: the element that it was at last, or x. -/
def wasAt (x : Int) (l : List Int) (k : Nat) (y : Int) : Prop := (k = 0 → y = x) ∧ ∀ (_ : 0 < k) (h : k - 1 < l.length), y = l[k - 1]
set_option maxHeartbeats 1000000 in
theorem rising_any (l : List Int) (v : Value) (B : Nat) (w : World) (hv : Row w B v (int64s l)) :
    Calls Tryd.prog 24 #[v] w fun e w' => e = .returned (.bool (upB l)) ∧ w = w' := by
  obtain ⟨hl, A, c, rfl, hc⟩ := row_ints hv
  have HC := Lib.hid hc
  clear hv hc
  go_enter Tryd.func24, Tryd.ntmps24
  go_wp2_with fail
  go_loop [3, 8] (fun u i => ∃ k : Nat, i = .int .i64 k ∧ k ≤ l.length ∧ ∃ y, u = .int .i64 y ∧ Hid (wasAt (-1) l k y) ∧ Hid (∀ i, ∀ h : i < l.length, i < k → 0 ≤ l[i] ∧ l[i] ≤ 12 ∧ (0 < i → l[i - 1]'(by omega) < l[i]))) (fun _ i => l.length - (intOf i).toNat)
  case atStart => exact ⟨0, rfl, Nat.zero_le _, _, rfl, Lib.hid ⟨fun _ => rfl, fun h => absurd h (Nat.lt_irrefl _)⟩, Lib.hid (fun i h h0 => absurd h0 (Nat.not_lt_zero _))⟩
  case round =>
    obtain ⟨k, rfl, hk, y, rfl, hY, hS⟩ := hrel
    by_cases hlt : k < l.length
    · obtain ⟨b, o, rfl, hbl, hcu⟩ := HC.out k hlt
      have i1 : (k : Int) < (l.length : Int) := by omega
      have HN := Lib.hid (show ¬ (0 ≤ l[k] ∧ l[k] ≤ 12 ∧ (0 < k → l[k - 1]'(by omega) < l[k])) → upB l = false from upB_no hlt)
      have HY := Lib.hid (show (0 ≤ l[k] ∧ l[k] ≤ 12 ∧ (0 < k → l[k - 1]'(by omega) < l[k])) → (∀ i, ∀ h : i < l.length, i < k + 1 → 0 ≤ l[i] ∧ l[i] ≤ 12 ∧ (0 < i → l[i - 1]'(by omega) < l[i])) from fun h i hi h1 => by
        rcases Nat.lt_or_ge i k with h2 | h2
        · exact hS.out i hi h2
        · obtain rfl : i = k := by omega
          exact h)
      have HW := Lib.hid (show y < l[k] ↔ (0 ≤ l[k] ∧ (0 < k → l[k - 1]'(by omega) < l[k])) from by
        rcases Nat.eq_zero_or_pos k with rfl | h0
        · have := hY.out.1 rfl
          constructor
          · intro h; exact ⟨by omega, fun h => absurd h (Nat.lt_irrefl _)⟩
          · intro h; omega
        · have e := hY.out.2 h0 (by omega)
          have := (hS.out (k - 1) (by omega) (by omega)).1
          subst e
          exact ⟨fun h => ⟨by omega, fun _ => h⟩, fun h => h.2 h0⟩)
      have HZ := Lib.hid (show wasAt (-1) l (k + 1) l[k] from ⟨fun h => by omega, fun _ _ => rfl⟩)
      generalize l[k] = z at *
      by_cases h1 : z ≤ y
      · have HR := Lib.hid (HN.out (fun h => by have := HW.out.2 ⟨h.1, h.2.2⟩; omega))
        go_wp2_with fail
        go_ret
        exact ⟨by rw [HR.out] <;> rfl, rfl⟩
      · by_cases h2 : 12 < z
        · have HR := Lib.hid (HN.out (fun h => by omega))
          go_wp2_with fail
          go_ret
          exact ⟨by rw [HR.out] <;> rfl, rfl⟩
        · have HR := Lib.hid (HY.out (by
            have := HW.out.1 (by omega)
            exact ⟨this.1, by omega, this.2⟩))
          go_wp2_with fail
          go_round
          case rel => exact ⟨k + 1, by go_num, by omega, _, rfl, HZ, HR⟩
          case measure => simp [intOf]; omega
    · have HR := Lib.hid (show upB l = true from decide_eq_true (fun i h => hS.out i h (by omega)))
      go_wp2_with fail
      go_ret
      exact ⟨by rw [HR.out] <;> rfl, rfl⟩

/-- Addresses that fall, all of them below a bound. -/
def fallB (nx : Int) (l : List Int) : Bool := decide (∀ i, ∀ h : i < l.length, 0 ≤ l[i] ∧ l[i] < nx ∧ (0 < i → l[i] < l[i - 1]'(by omega)))
theorem okA_iff (nx : Int) (a : List Int) : okA nx a ↔ a.length ≤ 4 ∧ fallB nx a = true := by
  unfold okA okTo fallB
  rw [decide_eq_true_iff]
  exact ⟨fun h => ⟨h.1, fun i hi => h.2 i hi hi⟩, fun h => ⟨h.1, fun i hi _ => h.2 i hi⟩⟩
set_option maxHeartbeats 1000000 in
theorem falling_any (nx : Int) (l : List Int) (v : Value) (B : Nat) (w : World) (hv : Row w B v (int64s l)) :
    Calls Tryd.prog 33 #[v, .int .i64 nx] w fun e w' => e = .returned (.bool (fallB nx l)) ∧ w = w' := by
  obtain ⟨hl, A, c, rfl, hc⟩ := row_ints hv
  have HC := Lib.hid hc
  clear hv hc
  go_enter Tryd.func33, Tryd.ntmps33
  go_wp2_with fail
  go_loop [1, 9] (fun u i => ∃ k : Nat, i = .int .i64 k ∧ k ≤ l.length ∧ ∃ y, u = .int .i64 y ∧ Hid (wasAt nx l k y) ∧ Hid (∀ i, ∀ h : i < l.length, i < k → 0 ≤ l[i] ∧ l[i] < nx ∧ (0 < i → l[i] < l[i - 1]'(by omega)))) (fun _ i => l.length - (intOf i).toNat)
  case atStart => exact ⟨0, rfl, Nat.zero_le _, _, rfl, Lib.hid ⟨fun _ => rfl, fun h => absurd h (Nat.lt_irrefl _)⟩, Lib.hid (fun i h h0 => absurd h0 (Nat.not_lt_zero _))⟩
  case round =>
    obtain ⟨k, rfl, hk, y, rfl, hY, hS⟩ := hrel
    by_cases hlt : k < l.length
    · obtain ⟨b, o, rfl, hbl, hcu⟩ := HC.out k hlt
      have i1 : (k : Int) < (l.length : Int) := by omega
      have HN := Lib.hid (show ¬ (0 ≤ l[k] ∧ l[k] < nx ∧ (0 < k → l[k] < l[k - 1]'(by omega))) → fallB nx l = false from fun hn => decide_eq_false fun e => hn (e k hlt))
      have HY := Lib.hid (show (0 ≤ l[k] ∧ l[k] < nx ∧ (0 < k → l[k] < l[k - 1]'(by omega))) → (∀ i, ∀ h : i < l.length, i < k + 1 → 0 ≤ l[i] ∧ l[i] < nx ∧ (0 < i → l[i] < l[i - 1]'(by omega))) from fun h i hi h1 => by
        rcases Nat.lt_or_ge i k with h2 | h2
        · exact hS.out i hi h2
        · obtain rfl : i = k := by omega
          exact h)
      have HW := Lib.hid (show l[k] < y ↔ (l[k] < nx ∧ (0 < k → l[k] < l[k - 1]'(by omega))) from by
        rcases Nat.eq_zero_or_pos k with rfl | h0
        · have := hY.out.1 rfl
          constructor
          · intro h; exact ⟨by omega, fun h => absurd h (Nat.lt_irrefl _)⟩
          · intro h; omega
        · have e := hY.out.2 h0 (by omega)
          have := (hS.out (k - 1) (by omega) (by omega)).2.1
          subst e
          exact ⟨fun h => ⟨by omega, fun _ => h⟩, fun h => h.2 h0⟩)
      have HZ := Lib.hid (show wasAt nx l (k + 1) l[k] from ⟨fun h => by omega, fun _ _ => rfl⟩)
      generalize l[k] = z at *
      by_cases h1 : z < 0
      · have HR := Lib.hid (HN.out (fun h => by omega))
        go_wp2_with fail
        go_ret
        exact ⟨by rw [HR.out] <;> rfl, rfl⟩
      · by_cases h2 : y ≤ z
        · have HR := Lib.hid (HN.out (fun h => by have := HW.out.2 h.2; omega))
          go_wp2_with fail
          go_ret
          exact ⟨by rw [HR.out] <;> rfl, rfl⟩
        · have HR := Lib.hid (HY.out (by
            have := HW.out.1 (by omega)
            exact ⟨by omega, this.1, this.2⟩))
          go_wp2_with fail
          go_round
          case rel => exact ⟨k + 1, by go_num, by omega, _, rfl, HZ, HR⟩
          case measure => simp [intOf]; omega
    · have HR := Lib.hid (show fallB nx l = true from decide_eq_true (fun i h => hS.out i h (by omega)))
      go_wp2_with fail
      go_ret
      exact ⟨by rw [HR.out] <;> rfl, rfl⟩

set_option maxRecDepth 100000 in
set_option maxHeartbeats 2000000 in
theorem right_tok (nx : Int) (bs : List (Int × List Int)) (v : Value) (B : Nat) (w : World) (hv : Backs w B v bs) (hB : B ≤ w.heap.size) (hlen : bs.length ≤ 20) :
    Calls Tryd.prog 20 #[v, .int .i64 nx] w fun e w' => (∃ b : Bool, e = .returned (.bool b) ∧ (b = true ↔ newOk nx bs)) ∧ Below w.heap.size w w' := by
  have HV := Lib.hid (fun W (h : Below w.heap.size w W) => (hv.below (h.mono hB)))
  obtain ⟨hl, A, c, rfl, _⟩ := hv.form
  have HB := Lib.hid hB
  have O0 := Lib.hid (show Own w w.heap.size (.slice none 0 0) [] from World.ownsRow_nil _ _ _ 1)
  have B0 := Lib.hid (Below.refl w.heap.size w)
  clear hv hB
  go_enter Tryd.func20, Tryd.ntmps20
  go_wp2_with fail
  go_loopw [5, 10] (fun u z wr => ∃ k : Nat, z = .int .i64 k ∧ k ≤ bs.length ∧ Hid (Own wr w.heap.size u ((bs.take k).map (·.1))) ∧ Hid (Below w.heap.size w wr) ∧ Hid (∀ b ∈ bs.take k, okA nx b.2)) (fun _ z _ => bs.length - (intOf z).toNat)
  case atStart => exact ⟨0, rfl, Nat.zero_le _, O0, B0, Lib.hid (by simp)⟩
  case round =>
    clear O0 B0
    obtain ⟨k, rfl, hk, hO, hBr, hS⟩ := hrel
    by_cases hlt : k < bs.length
    · obtain ⟨_, A1, c1, e1, hcA⟩ := (HV.out wr hBr.out).form
      injection e1 with e1 _ e1c
      subst e1 e1c
      obtain ⟨b, o, ux, rfl, hbB, hx0, hx1, hr1⟩ := hcA k hlt
      have hr := Lib.hid hr1
      obtain ⟨_, Au, cu, rfl, _⟩ := row_ints hr1
      have i5 : (k : Int) < (bs.length : Int) := by omega
      have HM := Lib.hid (List.getElem_mem hlt)
      have HT := Lib.hid (List.take_succ_eq_append_getElem hlt)
      have hlk : ((bs.take k).map (·.1)).length ≤ 20 := by rw [List.length_map, List.length_take]; omega
      clear hr1 hcA
      generalize bs[k] = x at *
      obtain ⟨st, a⟩ := x
      simp only [] at hx0 hx1 hr
      obtain ⟨wa, hwa⟩ : ∃ wa, wr.alloc (.cells #[.int .i64 st, .slice Au a.length cu] 51) = wa := ⟨_, rfl⟩
      have HA := Lib.hid (show Below wr.heap.size wr wa from by rw [← hwa]; exact (Below.refl _ _).alloc (Nat.le_refl _) _)
      have HAZ := Lib.hid (show wa.heap.size = wr.heap.size + 1 from by rw [← hwa, World.size_alloc])
      have HA0 := Lib.hid (show wa.heap[wr.heap.size]? = some (.cells #[.int .i64 st, .slice Au a.length cu] 51 (0, 0)) from by rw [← hwa]; exact heap_alloc_new wr _)
      have HBr1 : w.heap.size ≤ wa.heap.size := by have := HAZ.out; have := hBr.out.size; omega
      have HOA := Lib.hid (hO.out.below HA.out)
      have BA := Lib.hid (hBr.out.trans (HA.out.mono hBr.out.size))
      have d0 := cell_of_row _ _ 0 _ _ _ HA0.out
      have d1 := cell_of_row _ _ 1 _ _ _ HA0.out
      have RA := Lib.hid (hr.out.keep (below_cells (HA.out.mono (Nat.le_trans HB.out hBr.out.size))))
      have CF := Lib.hid (falling_any nx a _ B wa RA.out)
      by_cases h4 : 4 < a.length
      · have i6 : (4 : Int) < (a.length : Int) := by omega
        go_wp2_with fail
        go_ret
        refine ⟨.inl ⟨rfl, fun h => ?_⟩, BA.out⟩
        have := (h.1 _ HM.out).1
        simp only at this
        omega
      · have i6 : ¬ (4 : Int) < (a.length : Int) := by omega
        cases hf : fallB nx a with
        | false =>
          rw [hf] at CF
          have HNo := Lib.hid (show ¬ newOk nx bs from fun h => by
            have := ((okA_iff nx a).1 (h.1 _ HM.out)).2
            rw [hf] at this; cases this)
          clear hf
          go_wp2_with fail
          refine CF.out.mono ?_
          rintro en w1 ⟨rfl, rfl⟩
          clear CF
          go_wp2_with fail
          go_ret
          exact ⟨⟨_, rfl, ⟨fun h => (by cases h), fun h => absurd h HNo.out⟩⟩, BA.out⟩
        | true =>
          rw [hf] at CF
          have HS2 := Lib.hid (show ∀ b ∈ bs.take (k + 1), okA nx b.2 from fun b hb => by
            rw [HT.out] at hb
            rcases List.mem_append.1 hb with hb | hb
            · exact hS.out b hb
            · simp at hb; rw [hb]; exact (okA_iff nx a).2 ⟨by omega, hf⟩)
          clear hf
          go_wp2_with fail
          refine CF.out.mono ?_
          rintro en w1 ⟨rfl, rfl⟩
          clear CF
          go_wp2_with (at_builtin; refine wpList_push rfl (.tmp 25) (.tmp 28) rfl st rfl rfl HOA.out (by omega) HBr1 ?_; intro u3 w3 h1 h2 h3; have O3 := Lib.hid h1; have K3 := Lib.hid h2; clear h1 h2 h3)
          have O4 := Lib.hid (show Own w3 w.heap.size u3 ((bs.take (k + 1)).map (·.1)) from by rw [HT.out, List.map_append]; exact O3.out)
          have B4 := Lib.hid (show Below w.heap.size w w3 from Tide.Below.kept BA.out K3.out HBr1 (fun i h => (HOA.out.lt i h).1))
          clear d0 d1
          go_roundw
          case rel => exact ⟨k + 1, by go_num, by omega, O4, B4, HS2⟩
          case measure => simp [intOf]; omega
    · have ek : bs.take k = bs := List.take_of_length_le (by omega)
      rw [ek] at hO hS
      have CR := Lib.hid (rising_any _ _ wr.heap.size wr hO.out.row)
      have HR := Lib.hid (show upB (bs.map (·.1)) = true ↔ newOk nx bs from ⟨fun h => ⟨hS.out, h⟩, fun h => h.2⟩)
      generalize upB (bs.map (·.1)) = ub at *
      go_wp2_with fail
      refine CR.out.mono ?_
      rintro en w1 ⟨rfl, rfl⟩
      clear CR
      go_wp2_with fail
      go_ret
      exact ⟨⟨_, rfl, HR.out⟩, hBr.out⟩
end Go.Proofs.YtfgpjelnijeoaaaDoor
