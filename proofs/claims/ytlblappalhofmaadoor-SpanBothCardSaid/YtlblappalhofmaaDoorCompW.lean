/- What the project's Compare and Common answer: the order of two texts, and how many runes they begin with alike. -/
import Derived.Test.YtlblappalhofmaaDoorPairsW
import Derived.Test.YtlblappalhofmaaDoorUtfZ
import Derived.RangeFuncBox
namespace Go.Proofs.YtlblappalhofmaaDoor
open Go.RowKit Go.Shelf Tide Utf
attribute [local go_sem] Oper.semAt_some

theorem pairs_any (s t : ByteArray) (w : World) :
    Calls Tryd.prog 32 #[.string s, .string t] w fun e w' => e = .returned (.func (.func 37) #[] #[.pointer (some ⟨w.heap.size + 1, 0, none⟩), .pointer (some ⟨w.heap.size, 0, none⟩)]) ∧ w' = (w.alloc (.cells #[.string s] 9)).alloc (.cells #[.string t] 9) := by
  go_enter Tryd.func32, Tryd.ntmps32
  go_wp2
  go_ret
  exact ⟨rfl, rfl⟩

theorem boxed_below {W W' : World} {B N : Nat} {t : TypeId} {v : Value} (h : Boxed W B t v) (hb : Below N W W') (hB : B < N) : Boxed W' B t v := (hb.block B hB).trans h
theorem boxed_putObj {W : World} {B D : Nat} {t : TypeId} {v : Value} {o : Obj} (h : Boxed W B t v) (hD : W.heap[D]? = some o) (ho : o.isCells = false) (o' : Obj) : Boxed (W.putObj D o') B t v :=
  h.kept (grownBy_putObj' W D o') (fun e => by
    cases e
    rw [show W.heap[B]? = _ from h] at hD
    cases hD
    cases ho)
theorem isNaN_rune (x : Int) (w : World) : Calls Tryd.prog 39 #[.int .i32 x] w fun e w' => e = .returned (.bool false) ∧ w' = w := by
  go_enter Tryd.func39, Tryd.ntmps39
  go_wp2
  go_ret
  exact ⟨rfl, rfl⟩
theorem isNaN_int (x : Int) (w : World) : Calls Tryd.prog 40 #[.int .i64 x] w fun e w' => e = .returned (.bool false) ∧ w' = w := by
  go_enter Tryd.func40, Tryd.ntmps40
  go_wp2
  go_ret
  exact ⟨rfl, rfl⟩
theorem ret_cmp {a b : Int} (h : a = b) : Ending.returned (.int .i64 a) = .returned (.int .i64 b) := by rw [h]
theorem cmp_rune (x y : Int) (w : World) : Calls Tryd.prog 33 #[.int .i32 x, .int .i32 y] w fun e w' => e = .returned (.int .i64 (cmpI x y)) ∧ w' = w := by
  have h1 := isNaN_rune x w
  have h2 := isNaN_rune y w
  rcases Int.lt_trichotomy x y with h | h | h
  · have hc := Lib.hid (show cmpI x y = -1 from if_pos h)
    go_enter Tryd.func33, Tryd.ntmps33
    go_wp2_with fail
    refine h1.mono ?_
    rintro e w' ⟨rfl, rfl⟩
    go_wp2_with fail
    refine h2.mono ?_
    rintro e w' ⟨rfl, rfl⟩
    go_wp2_with fail
    go_ret
    exact ⟨ret_cmp hc.out.symm, rfl⟩
  · have hc := Lib.hid (show cmpI x y = 0 by unfold cmpI; rw [if_neg (by omega), if_neg (by omega)])
    have q1 : ¬ x < y := by omega
    have q2 : ¬ y < x := by omega
    clear h
    go_enter Tryd.func33, Tryd.ntmps33
    go_wp2_with fail
    refine h1.mono ?_
    rintro e w' ⟨rfl, rfl⟩
    go_wp2_with fail
    refine h2.mono ?_
    rintro e w' ⟨rfl, rfl⟩
    go_wp2_with fail
    go_ret
    exact ⟨ret_cmp hc.out.symm, rfl⟩
  · have hc := Lib.hid (show cmpI x y = 1 by unfold cmpI; rw [if_neg (by omega), if_pos h])
    have q1 : ¬ x < y := by omega
    go_enter Tryd.func33, Tryd.ntmps33
    go_wp2_with fail
    refine h1.mono ?_
    rintro e w' ⟨rfl, rfl⟩
    go_wp2_with fail
    refine h2.mono ?_
    rintro e w' ⟨rfl, rfl⟩
    go_wp2_with fail
    go_ret
    exact ⟨ret_cmp hc.out.symm, rfl⟩
theorem cmp_int (x y : Int) (w : World) : Calls Tryd.prog 34 #[.int .i64 x, .int .i64 y] w fun e w' => e = .returned (.int .i64 (cmpI x y)) ∧ w' = w := by
  have h1 := isNaN_int x w
  have h2 := isNaN_int y w
  rcases Int.lt_trichotomy x y with h | h | h
  · have hc := Lib.hid (show cmpI x y = -1 from if_pos h)
    go_enter Tryd.func34, Tryd.ntmps34
    go_wp2_with fail
    refine h1.mono ?_
    rintro e w' ⟨rfl, rfl⟩
    go_wp2_with fail
    refine h2.mono ?_
    rintro e w' ⟨rfl, rfl⟩
    go_wp2_with fail
    go_ret
    exact ⟨ret_cmp hc.out.symm, rfl⟩
  · have hc := Lib.hid (show cmpI x y = 0 by unfold cmpI; rw [if_neg (by omega), if_neg (by omega)])
    have q1 : ¬ x < y := by omega
    have q2 : ¬ y < x := by omega
    clear h
    go_enter Tryd.func34, Tryd.ntmps34
    go_wp2_with fail
    refine h1.mono ?_
    rintro e w' ⟨rfl, rfl⟩
    go_wp2_with fail
    refine h2.mono ?_
    rintro e w' ⟨rfl, rfl⟩
    go_wp2_with fail
    go_ret
    exact ⟨ret_cmp hc.out.symm, rfl⟩
  · have hc := Lib.hid (show cmpI x y = 1 by unfold cmpI; rw [if_neg (by omega), if_pos h])
    have q1 : ¬ x < y := by omega
    go_enter Tryd.func34, Tryd.ntmps34
    go_wp2_with fail
    refine h1.mono ?_
    rintro e w' ⟨rfl, rfl⟩
    go_wp2_with fail
    refine h2.mono ?_
    rintro e w' ⟨rfl, rfl⟩
    go_wp2_with fail
    go_ret
    exact ⟨ret_cmp hc.out.symm, rfl⟩

set_option maxRecDepth 100000 in
set_option maxHeartbeats 4000000 in
theorem comp_some {s t : ByteArray} {l m : List Nat} (w : World) (hs : s.size ≤ 65536) (ht : t.size ≤ 65536) (hT : Tabs w) (hl : runes s 0 = some l) (hm : runes t 0 = some m) :
    Calls Tryd.prog 26 #[.string s, .string t] w fun e w' => e = .returned (.int .i64 (cmp l m)) ∧ Below w.heap.size w w' := by
  obtain ⟨g1, g2⟩ := hT.lt
  have HT := Lib.hid hT
  have HL := Lib.hid hl
  have HM := Lib.hid hm
  clear hT hl hm
  refine (callsIn_wide (n := 5)).1 ?_
  refine callsIn_of_wp_marks Tryd.func26 rfl trivial ?_ rfl
  simp only [Tryd.ntmps26, List.size_toArray, List.length_cons, List.length_nil, Nat.reduceAdd, Nat.reduceSub, Array.replicate_succ, Array.replicate_zero, List.push_toArray, List.append_toArray, List.nil_append, List.cons_append]
  gi_wp2_with fail
  refine ⟨trivial, (callsIn_wide.2 (right_pos _ (by omega) (HT.out.alloc _) HL.out)).mono ?_⟩
  rintro e w1 ⟨rfl, hb⟩
  have c1 := Lib.hid (boxed_below ((Boxed.new w 3 (.int .i64 0))) hb (by simp))
  have HB1 := Lib.hid (((Below.refl w.heap.size w).alloc (Nat.le_refl _) (.cells #[.int .i64 0] 3)).trans (hb.mono (by simp)))
  have hz1 : w.heap.size < w1.heap.size := c1.out.lt
  clear hb
  gi_wp2_with fail
  refine ⟨trivial, (callsIn_wide.2 (right_pos w1 (by omega) (HT.out.below HB1.out) HM.out)).mono ?_⟩
  rintro e w2 ⟨rfl, hb⟩
  have c2 := Lib.hid (boxed_below c1.out hb hz1)
  have HB2 := Lib.hid (HB1.out.trans (hb.mono (by omega)))
  clear hb c1 HB1 hz1
  gi_wp2_with fail
  refine ⟨trivial, (callsIn_wide.2 (pairs_any s t w2)).mono ?_⟩
  rintro e w' ⟨rfl, rfl⟩
  have hz2 : w.heap.size < w2.heap.size := c2.out.lt
  have hq1 : ((w2.alloc (.cells #[.string s] 9)).alloc (.cells #[.string t] 9)).cell? ⟨w2.heap.size, 0, none⟩ = some (.string s) := ((Boxed.new w2 9 (.string s)).alloc _).cell
  have hq2 : ((w2.alloc (.cells #[.string s] 9)).alloc (.cells #[.string t] 9)).cell? ⟨w2.heap.size + 1, 0, none⟩ = some (.string t) := by
    have := (Boxed.new (w2.alloc (.cells #[.string s] 9)) 9 (.string t)).cell
    rwa [World.size_alloc] at this
  have hq3 := (c2.out.alloc (.cells #[.string s] 9)).alloc (.cells #[.string t] 9)
  have HB3 := Lib.hid ((HB2.out.alloc (by omega) (.cells #[.string s] 9)).alloc (by simp; omega) (.cells #[.string t] 9))
  have HT3 := Lib.hid (HT.out.below HB3.out)
  generalize hW0 : (w2.alloc (.cells #[.string s] 9)).alloc (.cells #[.string t] 9) = W0 at *
  have hz0 : w.heap.size ≤ W0.heap.size := HB3.out.size
  clear hW0 HB2 c2
  gi_wp2_with fail
  refine wpIn_rangeFunc_ownF rfl (by omega) (gf := 37) (lb := #[.pointer (some ⟨w2.heap.size + 1, 0, none⟩), .pointer (some ⟨w2.heap.size, 0, none⟩)]) rfl trivial (enters_of Tryd.func37 (by kernel_rfl) rfl)
    (pairs_stops _ (by omega) HL.out HM.out w2.heap.size w.heap.size W0 hq1 hq2 HT3.out g1 g2 hz0) K2_t (K2_b hz0) (Below.refl _ _) (fun _ => rfl)
    (fun (pre : List (Nat × Nat)) W => ((∀ p : Nat × Nat, p ∈ pre → p.1 = p.2) ∧ Boxed W w.heap.size 3 (.int .i64 0)) ∧ Below w.heap.size w W)
    (fun c (pre : List (Nat × Nat)) W => (c = .ret ∧ ∃ (init : List (Nat × Nat)) (x y : Nat), pre = init ++ [(x, y)] ∧ (∀ p : Nat × Nat, p ∈ init → p.1 = p.2) ∧ x ≠ y ∧ Boxed W w.heap.size 3 (.int .i64 (cmpI x y))) ∧ Below w.heap.size w W)
    (OwnFrom.and (Own.from (fun s A B row hs hg hr => ⟨hs.1, boxed_own w.heap.size 3 (fun _ : Unit => .int .i64 0) () A B row hs.2 hg hr⟩) _) (ownFrom_below (Nat.le_refl _) hz0))
    (fun c => OwnFrom.and (Own.from (fun s A B row hs hg hr => by
      obtain ⟨h0, init, x, y, h1, h2, h3, h4⟩ := hs
      exact ⟨h0, init, x, y, h1, h2, h3, boxed_own w.heap.size 3 (fun _ : Unit => .int .i64 (cmpI x y)) () A B row h4 hg hr⟩) _) (ownFrom_below (Nat.le_refl _) hz0))
    ⟨⟨by simp, hq3⟩, HB3.out⟩
    (fun (x : Nat × Nat) => { tmps := #[.string s, .string t, undef, undef, .pointer (some ⟨w.heap.size, 0, none⟩), .int .i32 (x.1 : Int), .int .i32 (x.2 : Int), .string s, .bool true, .bool false, .bool false, .string t, .bool true, .bool false, .bool false, .string s, .string t, .func (.func 37) #[] #[.pointer (some ⟨w2.heap.size + 1, 0, none⟩), .pointer (some ⟨w2.heap.size, 0, none⟩)], .int .i32 (x.1 : Int), .int .i32 (x.2 : Int), undef, undef, undef, undef, undef, undef, undef, undef, undef, undef, undef], defers := [] }) ?assign ?body ?done ?stop
  case assign =>
    intro l x W K hK
    gi_wp2
    exact hK
  case body =>
    rintro l pre ⟨x, y⟩ W ⟨⟨hp, hbx⟩, hB⟩ _
    have hbc := hbx.cell
    have hbf := hbx.frozen
    have HP := Lib.hid hp
    have HX := Lib.hid hbx
    have HBW := Lib.hid hB
    clear hp hbx hB
    by_cases hxy : x = y
    · have q1 : ((x : Int) == (y : Int)) = true := by rw [hxy]; exact beq_self_eq_true _
      have q2 : ((x : Int) != (y : Int)) = false := by rw [hxy]; exact bne_self_eq_false _
      have hp2 := Lib.hid (show ∀ p ∈ pre ++ [(x, y)], p.1 = p.2 from fun p hp => by
        rcases List.mem_append.1 hp with h | h
        · exact HP.out p h
        · simp at h; rw [h]; exact hxy)
      clear hxy
      gi_wp2
      exact ⟨KeepsOthers.refl _, K2_refl _ _, ⟨hp2.out, HX.out⟩, HBW.out⟩
    · have q1 : ((x : Int) == (y : Int)) = false := by rw [beq_eq_false_iff_ne]; omega
      have q2 : ((x : Int) != (y : Int)) = true := by rw [bne_iff_ne]; omega
      have HXY := Lib.hid hxy
      clear hxy
      gi_wp2_with fail
      refine ⟨trivial, (CallsIn.inRound l (callsIn_wide.2 (cmp_rune _ _ W))).mono ?_⟩
      rintro e w' ⟨rfl, rfl⟩
      gi_wp2
      exact ⟨KeepsOthers.setCell _ _ _, ⟨rfl, pre, x, y, rfl, HP.out, HXY.out, HX.out.set _⟩, HBW.out.setCell (p := ⟨w.heap.size, 0, none⟩) (Nat.le_refl _) _⟩
  case done =>
    rintro D xs W hD rfl ⟨⟨hp, hbx⟩, hB⟩ hK
    have hbc := hbx.cell
    have hbf := hbx.frozen
    have hans := Lib.hid (show cmpI (s.size : Nat) (t.size : Nat) = cmp l m by rw [cmp_zip_eq l m hp, Lib.size_eq, Lib.size_eq, text_of HL.out, text_of HM.out])
    have HK := Lib.hid hK
    have HX := Lib.hid hbx
    have HBW := Lib.hid hB
    clear hp hbx hB hK
    gi_wp2_with fail
    refine ⟨trivial, (callsIn_wide.2 (cmp_int _ _ W)).mono ?_⟩
    rintro e W ⟨rfl, rfl⟩
    rw [hans.out]
    gi_wp2
    have hK' := (KeepsOthers.setCell W ⟨w.heap.size, 0, none⟩ (.int .i64 (cmp l m))).same D _ HK.out rfl
    refine ⟨by simp, .inl ⟨_, _, rfl, run_takeDeferred hK', ?_⟩⟩
    have hc5 := (boxed_putObj (HX.out.set (.int .i64 (cmp l m))) hK' rfl (.deferred none)).cell
    refine ⟨.int .i64 (cmp l m), ?_, rfl, (HBW.out.setCell (p := ⟨w.heap.size, 0, none⟩) (Nat.le_refl _) _).trans (belowK_b (w := w) (Nat.le_refl _) _ D _ _ (by omega) hK' rfl rfl)⟩
    simp [results, Tryd.results26, go_sem, hc5]
  case stop =>
    rintro D c pre W hD hpre ⟨⟨rfl, init, x, y, rfl, hp, hne, hbx⟩, hB⟩ hK
    have hans := Lib.hid (cmp_zip_ne l m init x y hpre hp hne)
    have HK := Lib.hid hK
    have HX := Lib.hid hbx
    have HBW := Lib.hid hB
    clear hp hbx hB hK hpre hne
    rw [← hans.out] at HX
    gi_wp2
    refine ⟨by simp, .inl ⟨_, _, rfl, run_takeDeferred HK.out, ?_⟩⟩
    have hc5 := (boxed_putObj HX.out HK.out rfl (.deferred none)).cell
    refine ⟨.int .i64 (cmp l m), ?_, rfl, HBW.out.trans (belowK_b (w := w) (Nat.le_refl _) _ D _ _ (by omega) HK.out rfl rfl)⟩
    simp [results, Tryd.results26, go_sem, hc5]
end Go.Proofs.YtlblappalhofmaaDoor
