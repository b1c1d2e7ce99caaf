/- What the project's Compare answers of texts that aren't right, and what its Common answers: how many runes two texts begin with alike. -/
import Derived.Test.YtbjhmpjnffhioaaDoorCompW
namespace Go.Proofs.YtbjhmpjnffhioaaDoor
open Go.RowKit Go.Shelf Tide Utf
attribute [local go_sem] Oper.semAt_some

theorem comp_bad {s t : ByteArray} (w : World) (hs : s.size ≤ 65536) (ht : t.size ≤ 65536) (hT : Tabs w) (h : runes s 0 = none ∨ runes t 0 = none) :
    Calls Tryd.prog 18 #[.string s, .string t] w fun e w' => e = .returned (.int .i64 0) ∧ Below w.heap.size w w' := by
  have HT := Lib.hid hT
  clear hT
  cases hr : runes s 0 with
  | none =>
    have HR := Lib.hid hr
    clear hr h
    go_enter Tryd.func18, Tryd.ntmps18
    go_wp2_with fail
    refine (right_neg _ (by omega) (HT.out.alloc _) HR.out).mono ?_
    rintro e w1 ⟨rfl, hb⟩
    have c1 := boxed_below (Boxed.new w 3 (.int .i64 0)) hb (by simp)
    have HB1 := Lib.hid (((Below.refl w.heap.size w).alloc (Nat.le_refl _) (.cells #[.int .i64 0] 3)).trans (hb.mono (by simp)))
    have hc := c1.cell
    have hf := c1.frozen
    have hc2 := (c1.set (.int .i64 0)).cell
    clear hb c1
    go_wp2_with fail
    exact bodyPost_ret (v := .int .i64 0) (by simp [results, Tryd.results18, go_sem, hc2]) rfl ⟨rfl, HB1.out.setCell (p := ⟨w.heap.size, 0, none⟩) (Nat.le_refl _) _⟩
  | some l =>
    have hr2 : runes t 0 = none := h.resolve_left (by rw [hr]; simp)
    have HR := Lib.hid hr
    have HR2 := Lib.hid hr2
    clear hr hr2 h
    go_enter Tryd.func18, Tryd.ntmps18
    go_wp2_with fail
    refine (right_pos _ (by omega) (HT.out.alloc _) HR.out).mono ?_
    rintro e w1 ⟨rfl, hb⟩
    have c1 := boxed_below (Boxed.new w 3 (.int .i64 0)) hb (by simp)
    have HB1 := Lib.hid (((Below.refl w.heap.size w).alloc (Nat.le_refl _) (.cells #[.int .i64 0] 3)).trans (hb.mono (by simp)))
    have C1 := Lib.hid c1
    clear hb c1
    go_wp2_with fail
    refine (right_neg w1 (by omega) (HT.out.below HB1.out) HR2.out).mono ?_
    rintro e w2 ⟨rfl, hb⟩
    have c2 := boxed_below C1.out hb C1.out.lt
    have HB2 := Lib.hid (HB1.out.trans (hb.mono HB1.out.size))
    have hc := c2.cell
    have hf := c2.frozen
    have hc2 := (c2.set (.int .i64 0)).cell
    clear hb c2 C1
    go_wp2_with fail
    exact bodyPost_ret (v := .int .i64 0) (by simp [results, Tryd.results18, go_sem, hc2]) rfl ⟨rfl, HB2.out.setCell (p := ⟨w.heap.size, 0, none⟩) (Nat.le_refl _) _⟩

theorem comm_bad {s t : ByteArray} (w : World) (hs : s.size ≤ 65536) (ht : t.size ≤ 65536) (hT : Tabs w) (h : runes s 0 = none ∨ runes t 0 = none) :
    Calls Tryd.prog 19 #[.string s, .string t] w fun e w' => e = .returned (.int .i64 0) ∧ Below w.heap.size w w' := by
  have HT := Lib.hid hT
  clear hT
  cases hr : runes s 0 with
  | none =>
    have HR := Lib.hid hr
    clear hr h
    go_enter Tryd.func19, Tryd.ntmps19
    go_wp2_with fail
    refine (right_neg w (by omega) HT.out HR.out).mono ?_
    rintro e w1 ⟨rfl, hb⟩
    go_wp2_with fail
    go_ret
    exact ⟨rfl, hb⟩
  | some l =>
    have hr2 : runes t 0 = none := h.resolve_left (by rw [hr]; simp)
    have HR := Lib.hid hr
    have HR2 := Lib.hid hr2
    clear hr hr2 h
    go_enter Tryd.func19, Tryd.ntmps19
    go_wp2_with fail
    refine (right_pos w (by omega) HT.out HR.out).mono ?_
    rintro e w1 ⟨rfl, hb⟩
    have HB1 := Lib.hid hb
    clear hb
    go_wp2_with fail
    refine (right_neg w1 (by omega) (HT.out.below HB1.out) HR2.out).mono ?_
    rintro e w2 ⟨rfl, hb⟩
    have HB2 := Lib.hid (HB1.out.trans (hb.mono HB1.out.size))
    clear hb
    go_wp2_with fail
    go_ret
    exact ⟨rfl, HB2.out⟩

set_option maxRecDepth 100000 in
set_option maxHeartbeats 4000000 in
theorem comm_some {s t : ByteArray} {l m : List Nat} (w : World) (hs : s.size ≤ 65536) (ht : t.size ≤ 65536) (hT : Tabs w) (hl : runes s 0 = some l) (hm : runes t 0 = some m) :
    Calls Tryd.prog 19 #[.string s, .string t] w fun e w' => e = .returned (.int .i64 (common l m : Nat)) ∧ Below w.heap.size w w' := by
  obtain ⟨g1, g2⟩ := hT.lt
  have HT := Lib.hid hT
  have HL := Lib.hid hl
  have HM := Lib.hid hm
  have hlen := len_le hl
  have hzl : (l.zip m).length ≤ l.length := by rw [List.length_zip]; omega
  clear hT hl hm
  refine (callsIn_wide (n := 5)).1 ?_
  refine callsIn_of_wp_marks Tryd.func19 rfl trivial ?_ rfl
  simp only [Tryd.ntmps19, List.size_toArray, List.length_cons, List.length_nil, Nat.reduceAdd, Nat.reduceSub, Array.replicate_succ, Array.replicate_zero, List.push_toArray, List.append_toArray, List.nil_append, List.cons_append]
  gi_wp2_with fail
  refine ⟨trivial, (callsIn_wide.2 (right_pos w (by omega) HT.out HL.out)).mono ?_⟩
  rintro e w1 ⟨rfl, hb⟩
  have HB1 := Lib.hid hb
  clear hb
  gi_wp2_with fail
  refine ⟨trivial, (callsIn_wide.2 (right_pos w1 (by omega) (HT.out.below HB1.out) HM.out)).mono ?_⟩
  rintro e w2 ⟨rfl, hb⟩
  have HB2 := Lib.hid (HB1.out.trans (hb.mono HB1.out.size))
  have hz2 := HB2.out.size
  clear hb HB1
  gi_wp2_with fail
  have hq0 := Boxed.new w2 3 (.int .i64 0)
  have HB2' := Lib.hid (HB2.out.alloc hz2 (.cells #[.int .i64 0] 3))
  have hsz : (w2.alloc (.cells #[.int .i64 0] 3)).heap.size = w2.heap.size + 1 := World.size_alloc _ _
  generalize hw3 : w2.alloc (.cells #[.int .i64 0] 3) = w3 at *
  have hz3 : w.heap.size ≤ w3.heap.size := by omega
  clear hw3 HB2 hsz
  refine ⟨trivial, (callsIn_wide.2 (pairs_any s t w3)).mono ?_⟩
  rintro e w' ⟨rfl, rfl⟩
  have hq1 : ((w3.alloc (.cells #[.string s] 9)).alloc (.cells #[.string t] 9)).cell? ⟨w3.heap.size, 0, none⟩ = some (.string s) := ((Boxed.new w3 9 (.string s)).alloc _).cell
  have hq2 : ((w3.alloc (.cells #[.string s] 9)).alloc (.cells #[.string t] 9)).cell? ⟨w3.heap.size + 1, 0, none⟩ = some (.string t) := by
    have := (Boxed.new (w3.alloc (.cells #[.string s] 9)) 9 (.string t)).cell
    rwa [World.size_alloc] at this
  have hq3 := (hq0.alloc (.cells #[.string s] 9)).alloc (.cells #[.string t] 9)
  have HB3 := Lib.hid ((HB2'.out.alloc (by omega) (.cells #[.string s] 9)).alloc (by simp; omega) (.cells #[.string t] 9))
  have HT3 := Lib.hid (HT.out.below HB3.out)
  generalize hW0 : (w3.alloc (.cells #[.string s] 9)).alloc (.cells #[.string t] 9) = W0 at *
  have hz0 : w.heap.size ≤ W0.heap.size := HB3.out.size
  clear hW0 HB2' hq0
  gi_wp2_with fail
  refine wpIn_rangeFunc_ownF rfl (by omega) (gf := 38) (lb := #[.pointer (some ⟨w3.heap.size + 1, 0, none⟩), .pointer (some ⟨w3.heap.size, 0, none⟩)]) rfl trivial (enters_of Tryd.func38 (by kernel_rfl) rfl)
    (pairs_stops _ (by omega) HL.out HM.out w3.heap.size w.heap.size W0 hq1 hq2 HT3.out g1 g2 hz0) K2_t (K2_b hz0) (Below.refl _ _) (fun _ => rfl)
    (fun (pre : List (Nat × Nat)) W => ((∀ p : Nat × Nat, p ∈ pre → p.1 = p.2) ∧ Boxed W w2.heap.size 3 (.int .i64 (pre.length : Nat))) ∧ Below w.heap.size w W)
    (fun c (pre : List (Nat × Nat)) W => (c = .exit 0 ∧ ∃ (init : List (Nat × Nat)) (x y : Nat), pre = init ++ [(x, y)] ∧ (∀ p : Nat × Nat, p ∈ init → p.1 = p.2) ∧ x ≠ y ∧ Boxed W w2.heap.size 3 (.int .i64 (init.length : Nat))) ∧ Below w.heap.size w W)
    (OwnFrom.and (Own.from (fun s A B row hs hg hr => ⟨hs.1, boxed_own w2.heap.size 3 (fun _ : Unit => .int .i64 (s.length : Nat)) () A B row hs.2 hg hr⟩) _) (ownFrom_below (Nat.le_refl _) hz0))
    (fun c => OwnFrom.and (Own.from (fun s A B row hs hg hr => by
      obtain ⟨h0, init, x, y, h1, h2, h3, h4⟩ := hs
      exact ⟨h0, init, x, y, h1, h2, h3, boxed_own w2.heap.size 3 (fun _ : Unit => .int .i64 (init.length : Nat)) () A B row h4 hg hr⟩) _) (ownFrom_below (Nat.le_refl _) hz0))
    ⟨⟨by simp, hq3⟩, HB3.out⟩
    (fun (x : Nat × Nat) => { tmps := #[.string s, .string t, undef, undef, .int .i64 0, .pointer (some ⟨w2.heap.size, 0, none⟩), .int .i32 (x.1 : Int), .int .i32 (x.2 : Int), .string s, .bool true, .bool false, .bool false, .string t, .bool true, .bool false, .bool false, .string s, .string t, .func (.func 38) #[] #[.pointer (some ⟨w3.heap.size + 1, 0, none⟩), .pointer (some ⟨w3.heap.size, 0, none⟩)], .int .i32 (x.1 : Int), .int .i32 (x.2 : Int), undef, undef, undef, undef, undef, undef], defers := [] }) ?assign ?body ?done ?stop
  case assign =>
    intro l x W K hK
    gi_wp2
    exact hK
  case body =>
    rintro l pre ⟨x, y⟩ W ⟨⟨hp, hbx⟩, hB⟩ hN
    have hbc := hbx.cell
    have hbf := hbx.frozen
    have HP := Lib.hid hp
    have HX := Lib.hid hbx
    have HBW := Lib.hid hB
    clear hp hbx hB
    by_cases hxy : x = y
    · have q1 : ((x : Int) == (y : Int)) = true := by rw [hxy]; exact beq_self_eq_true _
      have q2 : ((x : Int) != (y : Int)) = false := by rw [hxy]; exact bne_self_eq_false _
      have hp2 := Lib.hid (show ∀ p : Nat × Nat, p ∈ pre ++ [(x, y)] → p.1 = p.2 from fun p hp => by
        rcases List.mem_append.1 hp with h | h
        · exact HP.out p h
        · simp at h; rw [h]; exact hxy)
      have hl2 : ((pre ++ [(x, y)]).length : Int) = (pre.length : Int) + 1 := by simp
      have HL2 := Lib.hid hl2
      clear hxy hl2
      gi_wp2
      refine ⟨KeepsOthers.setCell _ _ _, K2_setCell _ _ _ _ hz2, ⟨hp2.out, ?_⟩, HBW.out.setCell (p := ⟨w2.heap.size, 0, none⟩) hz2 _⟩
      rw [HL2.out]
      exact HX.out.set _
    · have q1 : ((x : Int) == (y : Int)) = false := by rw [beq_eq_false_iff_ne]; omega
      have q2 : ((x : Int) != (y : Int)) = true := by rw [bne_iff_ne]; omega
      have HXY := Lib.hid hxy
      clear hxy
      gi_wp2
      exact ⟨KeepsOthers.refl _, ⟨rfl, pre, x, y, rfl, HP.out, HXY.out, HX.out⟩, HBW.out⟩
  case done =>
    rintro D xs W hD rfl ⟨⟨hp, hbx⟩, hB⟩ hK
    rw [← common_eq l m hp] at hbx
    have hbc := hbx.cell
    have HK := Lib.hid hK
    have HBW := Lib.hid hB
    clear hp hbx hB hK
    gi_wp2
    refine ⟨by simp, .inl ⟨_, _, rfl, run_takeDeferred HK.out, ?_⟩⟩
    exact ⟨_, results_tmp rfl _ _ _, rfl, HBW.out.trans (belowK_b (w := w) (Nat.le_refl _) _ D _ _ (by omega) HK.out rfl rfl)⟩
  case stop =>
    rintro D c pre W hD hpre ⟨⟨rfl, init, x, y, rfl, hp, hne, hbx⟩, hB⟩ hK
    rw [← common_ne l m init x y hpre hp hne] at hbx
    have hbc := hbx.cell
    have HK := Lib.hid hK
    have HBW := Lib.hid hB
    clear hp hbx hB hK hpre hne
    gi_wp2
    refine ⟨by simp, .inl ⟨_, _, rfl, run_takeDeferred HK.out, ?_⟩⟩
    exact ⟨_, results_tmp rfl _ _ _, rfl, HBW.out.trans (belowK_b (w := w) (Nat.le_refl _) _ D _ _ (by omega) HK.out rfl rfl)⟩
end Go.Proofs.YtbjhmpjnffhioaaDoor
