/- The document's own Units of a right plan. -/
import Derived.Test.YtjcingefdgmdkaaDoorPlU
import Derived.Test.YtjcingefdgmdkaaDoorPlN
namespace Go.Proofs.YtjcingefdgmdkaaDoor
open Go.RowKit Tide

/-- The first n numbers that are units. -/
def unitsN (cs : List (List Int)) (n : Nat) : List Int := ((List.range n).map fun (i : Nat) => (i : Int)).filter fun u => decide (u ∈ cs.flatten)
theorem unitsN_succ (cs : List (List Int)) (n : Nat) : unitsN cs (n + 1) = unitsN cs n ++ (if (n : Int) ∈ cs.flatten then [(n : Int)] else []) := by
  unfold unitsN
  rw [List.range_succ, List.map_append, List.filter_append]
  congr 1
  by_cases h : (n : Int) ∈ cs.flatten
  · rw [if_pos h]; simp only [List.map_cons, List.map_nil]; rw [List.filter_cons, decide_eq_true h]; rfl
  · rw [if_neg h]; simp only [List.map_cons, List.map_nil]; rw [List.filter_cons, decide_eq_false h]; rfl
theorem unitsN_len (cs : List (List Int)) (n : Nat) : (unitsN cs n).length ≤ n := by
  unfold unitsN
  exact Nat.le_trans (List.length_filter_le _ _) (by simp)
/-- What one round adds. -/
def oneIf (u : Int) (l : List Int) : List Int := if u ∈ l then [u] else []
theorem oneIf_yes {cs : List (List Int)} (hn : cs.flatten.Nodup) {u : Int} {k : Nat} (hk : k < cs.length) (h : u ∈ cs[k]) : oneIf u (cs.take (k + 1)).flatten = oneIf u (cs.take k).flatten ++ [u] := by
  unfold oneIf
  rw [take_flat cs k hk, if_pos (List.mem_append_right _ h), if_neg]
  · rfl
  · intro h2
    rw [flat_split cs (k + 1), take_flat cs k hk] at hn
    have h3 := (List.nodup_append.1 (List.nodup_append.1 hn).1).2.2
    exact h3 u h2 u h rfl
theorem oneIf_no {cs : List (List Int)} {u : Int} {k : Nat} (hk : k < cs.length) (h : ¬ u ∈ cs[k]) : oneIf u (cs.take (k + 1)).flatten = oneIf u (cs.take k).flatten := by
  unfold oneIf
  rw [take_flat cs k hk]
  by_cases h2 : u ∈ (cs.take k).flatten
  · rw [if_pos (List.mem_append_left _ h2), if_pos h2]
  · rw [if_neg (fun h3 => (List.mem_append.1 h3).elim h2 h), if_neg h2]
theorem oneIf_len (u : Int) (l : List Int) : (oneIf u l).length ≤ 1 := by unfold oneIf; split <;> simp

set_option maxHeartbeats 2000000 in
theorem runits_any (ep : Int) (cs : List (List Int)) (v : Value) (B : Nat) (w : World) (hv : Grid w B v cs) (hB : B ≤ w.heap.size) (hR : rightB ep cs = true) :
    Calls Tryd.prog 16 #[planV ep v] w fun e w' => ∃ v', e = .returned v' ∧ Own w' w.heap.size v' (unitsL cs) ∧ Below w.heap.size w w' := by
  obtain ⟨hlen, A, c, rfl, hcell⟩ := hv.form
  have HC := Lib.hid hcell
  have HB := Lib.hid hB
  have hb0 := (Below.refl w.heap.size w).alloc (Nat.le_refl _) (.cells #[.int .i64 ep, .slice A cs.length c] 28)
  have B0 := Lib.hid hb0
  have O0 := Lib.hid (Own.new (w.alloc (.cells #[.int .i64 ep, .slice A cs.length c] 28)) (w.heap.size + 1) (by simp) (w.heap.size + 1) (by simp))
  have P0 := Lib.hid ((Two.new w 28 (.int .i64 ep) (.slice A cs.length c)).alloc (.cells #[] 3))
  have HN := Lib.hid (right_parts hR).2.2.2.2.2.2
  have HIN := Lib.hid (fun (W : World) (x : Int) (v : Value) (l : List Int) (B : Nat) (h : Row W B v (int64s l)) => in_any x l v B W h)
  clear hv hcell hB hb0 hR
  go_enter Tryd.func16, Tryd.ntmps16
  go_wp2_with fail
  go_loopw [3, 4] (fun sv i wr => ∃ n : Nat, i = .int .i64 n ∧ n ≤ 12 ∧ Hid (Own wr (w.heap.size + 1) sv (unitsN cs n)) ∧ Hid (Two wr w.heap.size 28 (.int .i64 ep) (.slice A cs.length c)) ∧ Hid (Below w.heap.size w wr)) (fun _ i _ => 12 - (intOf i).toNat)
  case atStart => exact ⟨0, rfl, Nat.zero_le _, O0, P0, Lib.hid (B0.out.alloc (by simp) _)⟩
  case round =>
    obtain ⟨n, rfl, hn, hO, hP, hBr⟩ := hrel
    by_cases hlt : n < 12
    · obtain ⟨_, hc0, hc1, _⟩ := hP.out.facts
      have i0 : (n : Int) < 12 := by omega
      go_wp2_with fail
      clear hc0 hc1
      go_loopw [3, 15] (fun sv i wr2 => ∃ k : Nat, i = .int .i64 k ∧ k ≤ cs.length ∧ Hid (Own wr2 (w.heap.size + 1) sv (unitsN cs n ++ oneIf n (cs.take k).flatten)) ∧ Hid (Two wr2 w.heap.size 28 (.int .i64 ep) (.slice A cs.length c)) ∧ Hid (Below w.heap.size w wr2)) (fun _ i _ => cs.length - (intOf i).toNat)
      case atStart => exact ⟨0, rfl, Nat.zero_le _, Lib.hid (by have := hO.out; simpa [oneIf] using this), hP, hBr⟩
      case round =>
        clear hO hP
        obtain ⟨k, rfl, hk, hO, hP, hBr2⟩ := hrel
        by_cases hltk : k < cs.length
        · obtain ⟨b, o, u, rfl, hbl, hcu, hr⟩ := HC.out k hltk
          have hbw : b < w.heap.size := Nat.lt_of_lt_of_le hbl HB.out
          have hc1 := (hBr2.out.cell (p := ⟨b, o + k, none⟩) hbw).trans hcu
          have i1 : (k : Int) < (cs.length : Int) := by omega
          have CI := Lib.hid (HIN.out _ (n : Int) u cs[k] B (Row.keep hr (below_cells (hBr2.out.mono HB.out))))
          have HY := Lib.hid (fun (h : (n : Int) ∈ cs[k]) => oneIf_yes HN.out hltk h)
          have HNo := Lib.hid (fun (h : ¬ (n : Int) ∈ cs[k]) => oneIf_no hltk h)
          have HLn := Lib.hid (show (unitsN cs n ++ oneIf n (cs.take k).flatten).length ≤ 1000000 from by
            rw [List.length_append]; have := unitsN_len cs n; have := oneIf_len n (cs.take k).flatten; omega)
          clear hcu hr
          generalize cs[k] = cc at *
          by_cases hm : (n : Int) ∈ cc
          · rw [decide_eq_true hm] at CI
            have HR := Lib.hid (HY.out hm)
            clear hm HNo HY
            go_wp2_with fail
            refine CI.out.mono ?_
            rintro e w' ⟨rfl, rfl⟩
            go_wp2_with (at_builtin; refine wpList_push rfl (.tmp 22) (.tmp 24) rfl (n : Int) rfl rfl hO.out HLn.out hP.out.lt ?_)
            intro v9 w9 h1 h2 h3
            have O9 := Lib.hid (show Own w9 (w.heap.size + 1) v9 (unitsN cs n ++ oneIf n (cs.take (k + 1)).flatten) from by
              rw [HR.out]; exact h1)
            have B9 := Lib.hid (hBr2.out.trans (h3.mono (Nat.le_succ _)))
            have P9 := Lib.hid (hP.out.kept h2 (fun hk => by have := (hO.out.lt _ hk).1; omega))
            clear h1 h2 h3
            go_wp2_with fail
            go_roundw
            case rel => exact ⟨k + 1, by go_num, by omega, O9, P9, B9⟩
            case measure => simp [intOf]; omega
          · rw [decide_eq_false hm] at CI
            have HR := Lib.hid (HNo.out hm)
            clear hm HNo HY
            go_wp2_with fail
            refine CI.out.mono ?_
            rintro e w' ⟨rfl, rfl⟩
            go_wp2_with fail
            go_roundw
            case rel => exact ⟨k + 1, by go_num, by omega, Lib.hid (by rw [HR.out]; exact hO.out), hP, hBr2⟩
            case measure => simp [intOf]; omega
        · have HE := Lib.hid (show unitsN cs n ++ oneIf n (cs.take k).flatten = unitsN cs (n + 1) from by
            rw [List.take_of_length_le (by omega), unitsN_succ]; rfl)
          go_wp2_with fail
          go_roundw
          case rel => exact ⟨n + 1, by go_num, by omega, Lib.hid (by rw [← HE.out]; exact hO.out), hP, hBr2⟩
          case measure => simp [intOf]; omega
    · have HE := Lib.hid (show unitsN cs n = unitsL cs from by rw [show n = 12 by omega]; rfl)
      have i0 : ¬ (n : Int) < 12 := by omega
      go_wp2_with fail
      go_ret
      exact ⟨_, rfl, by rw [← HE.out]; exact own_later hO.out (Nat.le_succ _), hBr.out⟩
end Go.Proofs.YtjcingefdgmdkaaDoor
