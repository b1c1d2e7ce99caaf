/- Package plan's Right, and the closure by which it takes units. -/
import Derived.Test.YtiafamacjpgjoaaGreatDoorGKeep
import Derived.WalkKit
import Derived.WalkSpells
import Derived.Laws.NewBlocks
namespace Go.Proofs.YtiafamacjpgjoaaGreatDoor
open Go.RowKit Tide

def Tak (W : World) (g : Nat) (l : List Int) : Prop := W.heap[g]? = some (.cells (marks l) 74 (0, 0))
theorem Tak.cell {W : World} {g : Nat} {l : List Int} (h : Tak W g l) (n : Nat) (hn : n < 12) : W.cell? ⟨g, n, none⟩ = some (.bool (decide ((n : Int) ∈ l))) := by
  rw [cell_of_row _ _ n _ _ _ h, marks_get l n hn]
theorem Tak.free {W : World} {g : Nat} {l : List Int} (h : Tak W g l) (n : Nat) : W.frozen? ⟨g, n, none⟩ = false := by
  unfold World.frozen?
  rw [show W.heap[(⟨g, n, none⟩ : Addr).block]? = _ from h]
  simp
theorem Tak.set {W : World} {g : Nat} {l : List Int} (h : Tak W g l) (n : Nat) (hn : n < 12) : Tak (W.setCell ⟨g, n, none⟩ (.bool true)) g (l ++ [(n : Int)]) := by
  obtain ⟨hlt, hk⟩ := Array.getElem?_eq_some_iff.1 h
  show (W.heap.modify g _)[g]? = _
  rw [Array.getElem?_eq_getElem (by rw [Array.size_modify]; exact hlt), Array.getElem_modify_self, hk, ← marks_set l n hn]
  rfl

theorem take_no (u : Int) (l : List Int) (g : Nat) (w : World) (h : Tak w g l) (ht : takeB l u = false) :
    Calls Tryz.prog 31 #[.int .i64 u, .pointer (some ⟨g, 0, none⟩)] w fun e w' => e = .returned (.bool false) ∧ w = w' := by
  cases q0 : decide (u < 0) with
  | true =>
    clear ht h
    go_enter Tryz.func31, Tryz.ntmps31
    go_wp2_with fail
    go_ret
    exact ⟨rfl, rfl⟩
  | false =>
    cases q1 : decide (12 ≤ u) with
    | true =>
      clear ht h
      go_enter Tryz.func31, Tryz.ntmps31
      go_wp2_with fail
      go_ret
      exact ⟨rfl, rfl⟩
    | false =>
      obtain ⟨n, rfl⟩ : ∃ n : Nat, u = n := ⟨u.toNat, by simp at q0; omega⟩
      have hn : n < 12 := by simp at q1; omega
      have hm : decide ((n : Int) ∈ l) = true := by
        unfold takeB at ht
        simp only [Bool.and_eq_false_iff, Bool.not_eq_false', decide_eq_false_iff_not] at ht
        rcases ht with h | h | h
        · omega
        · omega
        · exact h
      have hc := h.cell n hn
      rw [hm] at hc
      have i1 : (n : Int) < 12 := by omega
      clear ht h hm
      go_enter Tryz.func31, Tryz.ntmps31
      go_wp2_with fail
      go_ret
      exact ⟨rfl, rfl⟩
theorem take_yes (n : Nat) (l : List Int) (g : Nat) (w : World) (h : Tak w g l) (hn : n < 12) (hl : decide ((n : Int) ∈ l) = false) :
    Calls Tryz.prog 31 #[.int .i64 (n : Int), .pointer (some ⟨g, 0, none⟩)] w fun e w' => e = .returned (.bool true) ∧ w' = w.setCell ⟨g, n, none⟩ (.bool true) := by
  have hc := h.cell n hn
  have hf := h.free n
  rw [hl] at hc
  have i1 : (n : Int) < 12 := by omega
  have q0 : decide ((n : Int) < 0) = false := by simp
  have q1 : decide (12 ≤ (n : Int)) = false := by simp; omega
  clear hl h
  go_enter Tryz.func31, Tryz.ntmps31
  go_wp2_with fail
  go_ret
  exact ⟨rfl, rfl⟩
abbrev planV (ep : Int) (v : Value) : Value := .agg #[.int .i64 ep, v]

set_option maxHeartbeats 2000000 in
theorem right_any (ep : Int) (cs : List (List Int)) (v : Value) (B : Nat) (w : World) (hv : Grid w B v cs) (hB : B ≤ w.heap.size) :
    Calls Tryz.prog 9 #[planV ep v] w fun e w' => e = .returned (.bool (rightB ep cs)) ∧ Below w.heap.size w w' := by
  obtain ⟨hlen, A, c, rfl, hcell⟩ := hv.form
  have HC := Lib.hid hcell
  have HB := Lib.hid hB
  have B0 := Lib.hid ((Below.refl w.heap.size w).alloc (Nat.le_refl _) (.cells #[.int .i64 ep, .slice A cs.length c] 24))
  have hmf : ∀ (fn : Fn) (first cap : Array Value) (w : World), (Instr.makeFunc fn first cap).run Tryz.prog w = .ok (.func fn first cap) w := fun _ _ _ _ => rfl
  clear hv hcell hB
  cases q0 : decide (ep < 0) with
  | true =>
    have HR := Lib.hid (show rightB ep cs = false from by unfold rightB; simp at q0; simp; omega)
    go_enter Tryz.func9, Tryz.ntmps9
    go_wp2_with fail
    go_ret
    exact ⟨by rw [HR.out] <;> rfl, B0.out⟩
  | false =>
  cases q1 : decide (1073741824 < ep) with
  | true =>
    have HR := Lib.hid (show rightB ep cs = false from by unfold rightB; simp at q1; simp; omega)
    go_enter Tryz.func9, Tryz.ntmps9
    go_wp2_with fail
    go_ret
    exact ⟨by rw [HR.out] <;> rfl, B0.out⟩
  | false =>
  cases q2 : decide ((cs.length : Int) < 1) with
  | true =>
    have HR := Lib.hid (show rightB ep cs = false from by unfold rightB; simp at q2; simp; omega)
    go_enter Tryz.func9, Tryz.ntmps9
    go_wp2_with fail
    go_ret
    exact ⟨by rw [HR.out] <;> rfl, B0.out⟩
  | false =>
  cases q3 : decide ((3 : Int) < (cs.length : Int)) with
  | true =>
    have HR := Lib.hid (show rightB ep cs = false from by unfold rightB; simp at q3; simp; omega)
    go_enter Tryz.func9, Tryz.ntmps9
    go_wp2_with fail
    go_ret
    exact ⟨by rw [HR.out] <;> rfl, B0.out⟩
  | false =>
    have HA := Lib.hid (show (cs.all sizeC = true → goodU cs.flatten = true → rightB ep cs = true) from fun h4 h5 => right_all q0 q1 q2 q3 h4 h5)
    go_enter Tryz.func9, Tryz.ntmps9
    go_wp2_with fail
    have HM := Lib.hid (marks_nil)
    have HT0 := Lib.hid (show Tak ((w.alloc (.cells #[.int .i64 ep, .slice A cs.length c] 24)).alloc (.cells #[.bool false, .bool false, .bool false, .bool false, .bool false, .bool false, .bool false, .bool false, .bool false, .bool false, .bool false, .bool false] 74)) (w.heap.size + 1) [] from by
      unfold Tak; rw [HM.out]; have := heap_alloc_new (w.alloc (.cells #[.int .i64 ep, .slice A cs.length c] 24)) (.cells #[.bool false, .bool false, .bool false, .bool false, .bool false, .bool false, .bool false, .bool false, .bool false, .bool false, .bool false, .bool false] 74); rwa [World.size_alloc] at this)
    go_loopw [31] (fun i wr => ∃ k : Nat, i = .int .i64 k ∧ k ≤ cs.length ∧ Hid ((cs.take k).all sizeC = true) ∧ Hid (goodU (cs.take k).flatten = true) ∧ Hid (Tak wr (w.heap.size + 1) (cs.take k).flatten) ∧ Hid (Below w.heap.size w wr)) (fun i _ => cs.length - (intOf i).toNat)
    case atStart => exact ⟨0, rfl, Nat.zero_le _, Lib.hid rfl, Lib.hid good_nil, HT0, Lib.hid (B0.out.alloc (by simp) _)⟩
    case round =>
      obtain ⟨k, rfl, hk, hS, hG, hT, hBr⟩ := hrel
      by_cases hlt : k < cs.length
      · obtain ⟨b, o, u, rfl, hbl, hcu, hr⟩ := HC.out k hlt
        obtain ⟨hul, Au, cu, rfl, huc⟩ := row_ints hr
        have hbw : b < w.heap.size := Nat.lt_of_lt_of_le hbl HB.out
        have hc1 := (hBr.out.cell (p := ⟨b, o + k, none⟩) hbw).trans hcu
        have HU := Lib.hid huc
        have HSz := Lib.hid (fun (h : sizeC cs[k] = false) => right_size (ep := ep) hlt h)
        have HUn := Lib.hid (fun (j : Nat) (hj : j < cs[k].length) (h : takeB ((cs.take k).flatten ++ cs[k].take j) cs[k][j] = false) => right_unit (ep := ep) hlt hj h)
        have HAl := Lib.hid (show (sizeC cs[k] = true → (cs.take (k + 1)).all sizeC = true) from fun h => by rw [List.take_succ_eq_append_getElem hlt, List.all_append, hS.out]; simp [h])
        have HFl := Lib.hid (take_flat cs k hlt)
        have i1 : (k : Int) < (cs.length : Int) := by omega
        clear hr huc hcu
        generalize cs[k] = cc at *
        cases q4 : decide ((cc.length : Int) < 1) with
        | true =>
          have HR := Lib.hid (HSz.out (by unfold sizeC; simp at q4; simp; omega))
          go_wp2_with fail
          go_ret
          exact ⟨by rw [HR.out] <;> rfl, hBr.out⟩
        | false =>
        cases q5 : decide ((3 : Int) < (cc.length : Int)) with
        | true =>
          have HR := Lib.hid (HSz.out (by unfold sizeC; simp at q5; simp; omega))
          go_wp2_with fail
          go_ret
          exact ⟨by rw [HR.out] <;> rfl, hBr.out⟩
        | false =>
          have HA2 := Lib.hid (HAl.out (by unfold sizeC; simp at q4 q5; simp; omega))
          go_wp2_with fail
          go_loopw [45] (fun i wr => ∃ j : Nat, i = .int .i64 j ∧ j ≤ cc.length ∧ Hid (goodU ((cs.take k).flatten ++ cc.take j) = true) ∧ Hid (Tak wr (w.heap.size + 1) ((cs.take k).flatten ++ cc.take j)) ∧ Hid (Below w.heap.size w wr)) (fun i _ => cc.length - (intOf i).toNat)
          case atStart => exact ⟨0, rfl, Nat.zero_le _, Lib.hid (by rw [List.take_zero, List.append_nil]; exact hG.out), Lib.hid (by rw [List.take_zero, List.append_nil]; exact hT.out), hBr⟩
          case round =>
            clear hG hT
            obtain ⟨j, rfl, hj, hG, hT, hBr2⟩ := hrel
            by_cases hjl : j < cc.length
            · obtain ⟨b2, o2, rfl, hbl2, hcu⟩ := HU.out j hjl
              have hbw2 : b2 < w.heap.size := Nat.lt_of_lt_of_le hbl2 HB.out
              have hc2 := (hBr2.out.cell (p := ⟨b2, o2 + j, none⟩) hbw2).trans hcu
              have i2 : (j : Int) < (cc.length : Int) := by omega
              have HUj := Lib.hid (HUn.out j hjl)
              have HTk := Lib.hid (take_one cc j hjl)
              clear hcu
              generalize cc[j] = x at *
              cases ht : takeB ((cs.take k).flatten ++ cc.take j) x with
              | false =>
                have HR := Lib.hid (HUj.out ht)
                have CT := Lib.hid (take_no x _ _ _ hT.out ht)
                clear ht
                go_wp2_with fail
                refine CT.out.mono ?_
                rintro e w' ⟨rfl, rfl⟩
                go_wp2_with fail
                go_ret
                exact ⟨by rw [HR.out] <;> rfl, hBr2.out⟩
              | true =>
                have HGo := Lib.hid (show goodU ((cs.take k).flatten ++ cc.take (j + 1)) = true from by rw [HTk.out, ← List.append_assoc, good_snoc, hG.out, ht]; rfl)
                obtain ⟨n, rfl⟩ : ∃ n : Nat, x = n := ⟨x.toNat, by unfold takeB at ht; simp at ht; omega⟩
                have hn : n < 12 := by unfold takeB at ht; simp at ht; omega
                have hm : decide ((n : Int) ∈ (cs.take k).flatten ++ cc.take j) = false := by
                  unfold takeB at ht; simp only [Bool.and_eq_true, Bool.not_eq_true'] at ht; exact ht.2.2
                have CT := Lib.hid (take_yes n _ _ _ hT.out hn hm)
                have HT2 := Lib.hid (hT.out.set n hn)
                have HB2 := Lib.hid (hBr2.out.setCell (p := ⟨w.heap.size + 1, n, none⟩) (Nat.le_succ _) (.bool true))
                clear ht hm
                go_wp2_with fail
                refine CT.out.mono ?_
                rintro e w' ⟨rfl, rfl⟩
                go_wp2_with fail
                go_roundw
                case rel => exact ⟨j + 1, by go_num, by omega, HGo, Lib.hid (by rw [HTk.out, ← List.append_assoc]; exact HT2.out), HB2⟩
                case measure => simp [intOf]; omega
            · have HE := Lib.hid (List.take_of_length_le (l := cc) (i := j) (by omega))
              go_wp2_with fail
              go_roundw
              case rel => exact ⟨k + 1, by go_num, by omega, HA2, Lib.hid (by rw [HFl.out, ← HE.out]; exact hG.out), Lib.hid (by rw [HFl.out, ← HE.out]; exact hT.out), hBr2⟩
              case measure => simp [intOf]; omega
      · have HR := Lib.hid (show rightB ep cs = true from HA.out (by rw [← List.take_of_length_le (l := cs) (i := k) (by omega)]; exact hS.out) (by rw [← List.take_of_length_le (l := cs) (i := k) (by omega)]; exact hG.out))
        go_wp2_with fail
        go_ret
        exact ⟨by rw [HR.out] <;> rfl, hBr.out⟩
end Go.Proofs.YtiafamacjpgjoaaGreatDoor
