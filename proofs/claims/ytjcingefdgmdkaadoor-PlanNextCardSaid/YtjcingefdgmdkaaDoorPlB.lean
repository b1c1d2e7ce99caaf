/- The law's helpers of stage 10: alive, long, below. -/
import Derived.Test.YtjcingefdgmdkaaDoorPlV
namespace Go.Proofs.YtjcingefdgmdkaaDoor
open Go.RowKit Tide

theorem grid_two (w : World) : Grid (((w.alloc (.cells #[.int .i64 0] 3)).alloc (.cells #[.int .i64 1] 3)).alloc (.cells #[.slice (some ⟨w.heap.size, 0, none⟩) 1 1, .slice (some ⟨w.heap.size + 1, 0, none⟩) 1 1] 25)) (w.heap.size + 3) (.slice (some ⟨w.heap.size + 2, 0, none⟩) 2 2) [[0], [1]] := by
  have r0 : Row (w.alloc (.cells #[.int .i64 0] 3)) (w.heap.size + 1) (.slice (some ⟨w.heap.size, 0, none⟩) 1 1) (int64s [0]) := Row.new w _ #[.int .i64 0] (0, 0) _ 1 rfl rfl (by omega)
  have r1 : Row ((w.alloc (.cells #[.int .i64 0] 3)).alloc (.cells #[.int .i64 1] 3)) (w.heap.size + 1 + 1) (.slice (some ⟨w.heap.size + 1, 0, none⟩) 1 1) (int64s [1]) := by
    have := Row.new (w.alloc (.cells #[.int .i64 0] 3)) 3 #[.int .i64 1] (0, 0) (w.heap.size + 1) 1 (by simp) rfl (by omega)
    rwa [World.size_alloc] at this
  have hk : ∀ (W : World) (o : Obj) (b p : Nat), b < W.heap.size → (W.alloc o).cell? ⟨b, p, none⟩ = W.cell? ⟨b, p, none⟩ := fun W o b p hb => World.cell?_alloc_lt W o ⟨b, p, none⟩ hb
  refine ⟨[.slice (some ⟨w.heap.size, 0, none⟩) 1 1, .slice (some ⟨w.heap.size + 1, 0, none⟩) 1 1], ?_, rfl, ?_⟩
  · have := Row.new ((w.alloc (.cells #[.int .i64 0] 3)).alloc (.cells #[.int .i64 1] 3)) 25 #[.slice (some ⟨w.heap.size, 0, none⟩) 1 1, .slice (some ⟨w.heap.size + 1, 0, none⟩) 1 1] (0, 0) (w.heap.size + 2) 2 (by simp) rfl (by omega)
    simpa only [World.size_alloc] using this
  · intro i u c hu hc
    have hi : i = 0 ∨ i = 1 := by
      have := (List.getElem?_eq_some_iff.1 hc).1
      simp at this; omega
    rcases hi with rfl | rfl
    · simp at hu hc; subst hu hc
      exact Row.more (Row.keep r0 (below_cells (((Below.refl (w.heap.size + 1) _).alloc (by simp) _).alloc (by simp) _))) (by omega)
    · simp at hu hc; subst hu hc
      exact Row.more (Row.keep r1 (below_cells ((Below.refl (w.heap.size + 1 + 1) _).alloc (by simp) _))) (by omega)
theorem right_two : rightB 0 [[0], [1]] = true := by decide

theorem alive_any (E : Nat → Addr) (w : World) (hE : Er2 w E) :
    Calls Tryd.prog 6 #[] w fun e w' => e = .returned (.bool true) ∧ Below w.heap.size w w' := by
  have hb0 : Below w.heap.size w (((w.alloc (.cells #[.int .i64 0] 3)).alloc (.cells #[.int .i64 1] 3)).alloc (.cells #[.slice (some ⟨w.heap.size, 0, none⟩) 1 1, .slice (some ⟨w.heap.size + 1, 0, none⟩) 1 1] 25)) :=
    (((Below.refl w.heap.size w).alloc (Nat.le_refl _) _).alloc (by simp) _).alloc (by simp; omega) _
  have CP := Lib.hid (place_any E 0 [[0], [1]] _ 5 _ _ (grid_two w) (by simp) (hE.below hb0))
  have B0 := Lib.hid hb0
  clear hb0 hE
  go_enter Tryd.func6, Tryd.ntmps6
  go_wp2_with fail
  refine CP.out.mono ?_
  rintro e w1 ⟨x, rfl, hx, hb⟩
  have HB := Lib.hid (B0.out.trans (hb.mono B0.out.size))
  clear hb
  rcases hx with ⟨h, _⟩ | ⟨_, h, _⟩ | ⟨_, _, _, rfl⟩
  · rw [right_two] at h; cases h
  · exact absurd ⟨by omega, by omega⟩ h
  · have e1 : (5 : Int) % (([[0], [1]] : List (List Int)).length : Int) = 1 := by decide
    have e2 : (5 : Int) / (([[0], [1]] : List (List Int)).length : Int) = 2 := by decide
    rw [e1, e2]
    go_wp2_with fail
    go_ret
    exact ⟨rfl, HB.out⟩

/-- A plan is more than is asked. -/
def longB (cs : List (List Int)) : Bool := decide (10 < cs.length) || cs.any fun c => decide (10 < c.length)
set_option maxHeartbeats 1000000 in
theorem long_any (ep : Int) (cs : List (List Int)) (v : Value) (B : Nat) (w : World) (hv : Grid w B v cs) (hB : B ≤ w.heap.size) :
    Calls Tryd.prog 7 #[planV ep v] w fun e w' => e = .returned (.bool (longB cs)) ∧ Below w.heap.size w w' := by
  obtain ⟨hlen, A, c, rfl, hcell⟩ := hv.form
  have HC := Lib.hid hcell
  have HB := Lib.hid hB
  have B0 := Lib.hid ((Below.refl w.heap.size w).alloc (Nat.le_refl _) (.cells #[.int .i64 ep, .slice A cs.length c] 24))
  clear hv hcell hB
  cases q0 : decide ((10 : Int) < (cs.length : Int)) with
  | true =>
    have HR := Lib.hid (show longB cs = true from by unfold longB; simp at q0; rw [decide_eq_true (by omega)]; rfl)
    go_enter Tryd.func7, Tryd.ntmps7
    go_wp2_with fail
    go_ret
    exact ⟨by rw [HR.out] <;> rfl, B0.out⟩
  | false =>
    have HL := Lib.hid (show longB cs = cs.any fun c => decide (10 < c.length) from by unfold longB; simp at q0; rw [decide_eq_false (by omega)]; rfl)
    have hcb : Below w.heap.size w (w.alloc (.cells #[.int .i64 ep, .slice A cs.length c] 24)) := B0.out
    have HCW := Lib.hid (show ∀ b o, b < w.heap.size → (w.alloc (.cells #[.int .i64 ep, .slice A cs.length c] 24)).cell? ⟨b, o, none⟩ = w.cell? ⟨b, o, none⟩ from below_cells hcb)
    clear hcb
    go_enter Tryd.func7, Tryd.ntmps7
    go_wp2_with fail
    go_loop [12] (fun i => ∃ k : Nat, i = .int .i64 k ∧ k ≤ cs.length ∧ Hid (((cs.take k).any fun c => decide (10 < c.length)) = false)) (fun i => cs.length - (intOf i).toNat)
    case atStart => exact ⟨0, rfl, Nat.zero_le _, Lib.hid rfl⟩
    case round =>
      obtain ⟨k, rfl, hk, hS⟩ := hrel
      by_cases hlt : k < cs.length
      · obtain ⟨b, o, u, rfl, hbl, hcu, hr⟩ := HC.out k hlt
        obtain ⟨hul, Au, cu, rfl, huc⟩ := row_ints hr
        have hbw : b < w.heap.size := Nat.lt_of_lt_of_le hbl HB.out
        have hc1 := (HCW.out b (o + k) hbw).trans hcu
        have i1 : (k : Int) < (cs.length : Int) := by omega
        have HX := Lib.hid (show (decide (10 < cs[k].length) = true → longB cs = true) from fun h => by
          rw [HL.out, List.any_eq_true]; exact ⟨_, List.getElem_mem hlt, h⟩)
        have HY := Lib.hid (show (decide (10 < cs[k].length) = false → ((cs.take (k + 1)).any fun c => decide (10 < c.length)) = false) from fun h => by
          rw [List.take_succ_eq_append_getElem hlt, List.any_append, hS.out]; simpa using h)
        clear hr huc hcu
        generalize cs[k] = cc at *
        cases q4 : decide ((10 : Int) < (cc.length : Int)) with
        | true =>
          have HR := Lib.hid (HX.out (by simp at q4; simp; omega))
          go_wp2_with fail
          go_ret
          exact ⟨by rw [HR.out] <;> rfl, B0.out⟩
        | false =>
          have HR := Lib.hid (HY.out (by simp at q4; simp; omega))
          go_wp2_with fail
          go_round
          case rel => exact ⟨k + 1, by go_num, by omega, HR⟩
          case measure => simp [intOf]; omega
      · have HR := Lib.hid (show longB cs = false from by rw [HL.out]; have := hS.out; rwa [List.take_of_length_le (by omega)] at this)
        go_wp2_with fail
        go_ret
        exact ⟨by rw [HR.out] <;> rfl, B0.out⟩

set_option maxHeartbeats 1000000 in
theorem below_any (E : Nat → Addr) (ep : Int) (cs : List (List Int)) (ts : List Int) (v u : Value) (a : Int) (B : Nat) (w : World) (hv : Grid w B v cs) (hu : Row w B u (int64s ts)) (hB : B ≤ w.heap.size) (hE : Er2 w E) :
    Calls Tryd.prog 22 #[planV ep v, u, .int .i64 a] w fun e w' => e = .returned (.bool (belowB ep cs ts a)) ∧ Below w.heap.size w w' := by
  obtain ⟨hlu, A2, c2, rfl, hcu⟩ := row_ints hu
  obtain ⟨hlen, A, c, rfl, hcl⟩ := hv.form
  clear hcl
  have B0 := Lib.hid ((Below.refl w.heap.size w).alloc (Nat.le_refl _) (.cells #[.int .i64 ep, .slice A cs.length c] 24))
  have CP := Lib.hid (fun W (h : Below w.heap.size w W) => place_any E ep cs _ a B W (hv.below (h.mono hB)) (Nat.le_trans hB h.size) (hE.below h))
  have HC := Lib.hid hcu
  have HB := Lib.hid hB
  have HF := Lib.hid (show (rightB ep cs = true → 0 ≤ a → a ≤ 4095 → belowB ep cs ts a = (match ts[(a % cs.length).toNat]? with | some t => decide (a / cs.length < t) | none => false)) from fun h1 h2 h3 => by
    unfold belowB; rw [decide_eq_true ⟨h1, h2, h3⟩, Bool.true_and]; rfl)
  have HN := Lib.hid (show (¬ (rightB ep cs = true ∧ 0 ≤ a ∧ a ≤ 4095) → belowB ep cs ts a = false) from fun h => by
    unfold belowB; rw [decide_eq_false h, Bool.false_and])
  have HP := Lib.hid (fun h => @right_parts ep cs h)
  clear hv hu hB hE hcu
  go_enter Tryd.func22, Tryd.ntmps22
  go_wp2_with fail
  refine (CP.out _ B0.out).mono ?_
  rintro e w1 ⟨x, rfl, hx, hb⟩
  have HB1 := Lib.hid (B0.out.trans (hb.mono B0.out.size))
  clear hb
  rcases hx with ⟨h, rfl⟩ | ⟨_, h, rfl⟩ | ⟨hr, h0, h1, rfl⟩
  · have HR := Lib.hid (HN.out (by rw [h]; simp))
    clear h
    go_wp2_with fail
    go_ret
    exact ⟨by rw [HR.out] <;> rfl, HB1.out⟩
  · have HR := Lib.hid (HN.out (fun hh => h hh.2))
    clear h
    go_wp2_with fail
    go_ret
    exact ⟨by rw [HR.out] <;> rfl, HB1.out⟩
  · have hn := HP.out hr
    have n1 := hn.2.2.1
    have HR := Lib.hid (HF.out hr h0 h1)
    have e1 : 0 ≤ a % (cs.length : Int) := Int.emod_nonneg _ (by omega)
    obtain ⟨j, hj⟩ : ∃ j : Nat, a % (cs.length : Int) = j := ⟨(a % (cs.length : Int)).toNat, by omega⟩
    rw [hj] at HR ⊢
    generalize a / (cs.length : Int) = d at *
    clear hn hr h0 h1 e1 hj CP HF HN HP
    by_cases hlt : j < ts.length
    · obtain ⟨b, o, rfl, hbl, hcu⟩ := HC.out j hlt
      have hbw : b < w.heap.size := Nat.lt_of_lt_of_le hbl HB.out
      have hc1 := (HB1.out.cell (p := ⟨b, o + j, none⟩) hbw).trans hcu
      have i1 : (j : Int) < (ts.length : Int) := by omega
      have HR2 := Lib.hid (show belowB ep cs ts a = decide (d < ts[j]) from by rw [HR.out, show ((j : Int)).toNat = j by omega, List.getElem?_eq_getElem hlt])
      clear hcu HR
      generalize ts[j] = t at *
      go_wp2_with fail
      go_ret
      exact ⟨by rw [HR2.out] <;> rfl, HB1.out⟩
    · have HR2 := Lib.hid (show belowB ep cs ts a = false from by rw [HR.out, show ((j : Int)).toNat = j by omega, List.getElem?_eq_none (by omega)])
      go_wp2_with fail
      go_ret
      exact ⟨by rw [HR2.out] <;> rfl, HB1.out⟩
end Go.Proofs.YtjcingefdgmdkaaDoor
