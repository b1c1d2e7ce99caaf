/- The law of Compare and Common, walked: the code's answers and the document's are the same, for all texts; the order of two right texts is the order of their bytes. -/
import Derived.Test.YtbjhmpjnffhioaaDoorCommW
import Derived.Test.YtbjhmpjnffhioaaDoorCutL
import Derived.Test.YtbjhmpjnffhioaaDoorUtfC
namespace Go.Proofs.YtbjhmpjnffhioaaDoor
open Go.RowKit Go.Shelf Tide Utf

theorem comp_c {s t : ByteArray} {l m : List Nat} (w : World) (hs : s.size ≤ 65536) (ht : t.size ≤ 65536) (hT : Tabs w) (hl : runes s 0 = some l) (hm : runes t 0 = some m) (c : Int) (hc : cmp l m = c) :
    Calls Tryd.prog 18 #[.string s, .string t] w fun e w' => e = .returned (.int .i64 c) ∧ Below w.heap.size w w' :=
  hc ▸ comp_some w hs ht hT hl hm
theorem comm_c {s t : ByteArray} {l m : List Nat} (w : World) (hs : s.size ≤ 65536) (ht : t.size ≤ 65536) (hT : Tabs w) (hl : runes s 0 = some l) (hm : runes t 0 = some m) (k : Nat) (hk : common l m = k) :
    Calls Tryd.prog 19 #[.string s, .string t] w fun e w' => e = .returned (.int .i64 (k : Int)) ∧ Below w.heap.size w w' :=
  hk ▸ comm_some w hs ht hT hl hm
theorem rcmp_c (u v : Value) (x y : List Nat) (B : Nat) (w : World) (hx : Row w B u (intCells x)) (hy : Row w B v (intCells y)) (c : Int) (hc : cmp x y = c) :
    Calls Tryd.prog 20 #[u, v] w fun e w' => e = .returned (.int .i64 c) ∧ ∃ n, w' = w.drewN n :=
  hc ▸ rcmp_any u v x y B w hx hy

theorem comp_big (s t : ByteArray) (w : World) (hT : Tabs w) (h : 300 < s.size ∨ 300 < t.size) :
    Calls Tryd.prog 5 #[.string s, .string t] w fun e w' => e = .returned (.bool true) ∧ Below w.heap.size w w' := by
  have HT := Lib.hid hT
  clear hT
  by_cases h1 : 300 < s.size
  · clear h
    go_enter Tryd.func5, Tryd.ntmps5
    go_wp2_with fail
    refine (alive_any w HT.out).mono ?_
    rintro e w1 ⟨rfl, hb⟩
    go_wp2_with fail
    go_ret
    exact ⟨rfl, hb⟩
  · have h2 : 300 < t.size := h.resolve_left h1
    clear h
    go_enter Tryd.func5, Tryd.ntmps5
    go_wp2_with fail
    refine (alive_any w HT.out).mono ?_
    rintro e w1 ⟨rfl, hb⟩
    go_wp2_with fail
    go_ret
    exact ⟨rfl, hb⟩

/-- One of the document's two answers, told by a right text or another. -/
theorem runes_some_any {s : ByteArray} {l : List Nat} (w : World) (hs : s.size ≤ 65536) (h : runes s 0 = some l) :
    Calls Tryd.prog 9 #[.string s] w fun e w' => ∃ v, e = .returned (.tuple #[v, .bool true]) ∧ Row w' w'.heap.size v (intCells l) ∧ Below w.heap.size w w' :=
  (runes_any s w hs).mono fun _ _ hh => by
    rcases hh with ⟨l', v, hr, he, hown, hb⟩ | ⟨hr, _⟩
    · have hl' : l' = l := Option.some.inj (hr.symm.trans h)
      rw [hl'] at hown
      exact ⟨v, he, own_row hown, hb⟩
    · rw [h] at hr; cases hr
theorem runes_none_any {s : ByteArray} (w : World) (hs : s.size ≤ 65536) (h : runes s 0 = none) :
    Calls Tryd.prog 9 #[.string s] w fun e w' => e = .returned (.tuple #[.slice none 0 0, .bool false]) ∧ Below w.heap.size w w' :=
  (runes_any s w hs).mono fun _ _ hh => by
    rcases hh with ⟨l', v, hr, _⟩ | ⟨_, he, hb⟩
    · rw [h] at hr; cases hr
    · exact ⟨he, hb⟩

set_option maxRecDepth 100000 in
set_option maxHeartbeats 2000000 in
theorem comp_wrong (s t : ByteArray) (w : World) (hs : s.size ≤ 300) (ht : t.size ≤ 300) (hT : Tabs w) (h : runes s 0 = none ∨ runes t 0 = none) :
    Calls Tryd.prog 5 #[.string s, .string t] w fun e w' => e = .returned (.bool true) ∧ Below w.heap.size w w' := by
  have HT := Lib.hid hT
  have H := Lib.hid h
  clear hT
  cases hr : runes s 0 with
  | none =>
    have HR := Lib.hid hr
    cases hr2 : runes t 0 with
    | none =>
      have HR2 := Lib.hid hr2
      clear hr hr2 h
      go_enter Tryd.func5, Tryd.ntmps5
      go_wp2_with fail
      refine (alive_any w HT.out).mono ?_
      rintro e w1 ⟨rfl, hb⟩
      have HB1 := Lib.hid hb
      clear hb
      go_wp2_with fail
      refine (runes_none_any w1 (by omega) HR.out).mono ?_
      rintro e w2 ⟨rfl, hb⟩
      have HB2 := Lib.hid (HB1.out.trans (hb.mono HB1.out.size))
      clear hb HB1
      go_wp2_with fail
      refine (runes_none_any w2 (by omega) HR2.out).mono ?_
      rintro e w3 ⟨rfl, hb⟩
      have HB3 := Lib.hid (HB2.out.trans (hb.mono HB2.out.size))
      clear hb HB2
      go_wp2_with fail
      refine (comp_bad w3 (by omega) (by omega) (HT.out.below HB3.out) H.out).mono ?_
      rintro e w4 ⟨rfl, hb⟩
      have HB4 := Lib.hid (HB3.out.trans (hb.mono HB3.out.size))
      clear hb HB3
      go_wp2_with fail
      refine (comm_bad w4 (by omega) (by omega) (HT.out.below HB4.out) H.out).mono ?_
      rintro e w5 ⟨rfl, hb⟩
      have HB5 := Lib.hid (HB4.out.trans (hb.mono HB4.out.size))
      clear hb HB4
      go_wp2_with fail
      go_ret
      exact ⟨rfl, HB5.out⟩
    | some m =>
      have HR2 := Lib.hid hr2
      clear hr hr2 h
      go_enter Tryd.func5, Tryd.ntmps5
      go_wp2_with fail
      refine (alive_any w HT.out).mono ?_
      rintro e w1 ⟨rfl, hb⟩
      have HB1 := Lib.hid hb
      clear hb
      go_wp2_with fail
      refine (runes_none_any w1 (by omega) HR.out).mono ?_
      rintro e w2 ⟨rfl, hb⟩
      have HB2 := Lib.hid (HB1.out.trans (hb.mono HB1.out.size))
      clear hb HB1
      go_wp2_with fail
      refine (runes_some_any w2 (by omega) HR2.out).mono ?_
      rintro e w3 ⟨v, rfl, _, hb⟩
      have HB3 := Lib.hid (HB2.out.trans (hb.mono HB2.out.size))
      clear hb HB2
      go_wp2_with fail
      refine (comp_bad w3 (by omega) (by omega) (HT.out.below HB3.out) H.out).mono ?_
      rintro e w4 ⟨rfl, hb⟩
      have HB4 := Lib.hid (HB3.out.trans (hb.mono HB3.out.size))
      clear hb HB3
      go_wp2_with fail
      refine (comm_bad w4 (by omega) (by omega) (HT.out.below HB4.out) H.out).mono ?_
      rintro e w5 ⟨rfl, hb⟩
      have HB5 := Lib.hid (HB4.out.trans (hb.mono HB4.out.size))
      clear hb HB4
      go_wp2_with fail
      go_ret
      exact ⟨rfl, HB5.out⟩
  | some l =>
    have hr2 : runes t 0 = none := h.resolve_left (by rw [hr]; simp)
    have HR := Lib.hid hr
    have HR2 := Lib.hid hr2
    clear hr hr2 h
    go_enter Tryd.func5, Tryd.ntmps5
    go_wp2_with fail
    refine (alive_any w HT.out).mono ?_
    rintro e w1 ⟨rfl, hb⟩
    have HB1 := Lib.hid hb
    clear hb
    go_wp2_with fail
    refine (runes_some_any w1 (by omega) HR.out).mono ?_
    rintro e w2 ⟨v, rfl, _, hb⟩
    have HB2 := Lib.hid (HB1.out.trans (hb.mono HB1.out.size))
    clear hb HB1
    go_wp2_with fail
    refine (runes_none_any w2 (by omega) HR2.out).mono ?_
    rintro e w3 ⟨rfl, hb⟩
    have HB3 := Lib.hid (HB2.out.trans (hb.mono HB2.out.size))
    clear hb HB2
    go_wp2_with fail
    refine (comp_bad w3 (by omega) (by omega) (HT.out.below HB3.out) H.out).mono ?_
    rintro e w4 ⟨rfl, hb⟩
    have HB4 := Lib.hid (HB3.out.trans (hb.mono HB3.out.size))
    clear hb HB3
    go_wp2_with fail
    refine (comm_bad w4 (by omega) (by omega) (HT.out.below HB4.out) H.out).mono ?_
    rintro e w5 ⟨rfl, hb⟩
    have HB5 := Lib.hid (HB4.out.trans (hb.mono HB4.out.size))
    clear hb HB4
    go_wp2_with fail
    go_ret
    exact ⟨rfl, HB5.out⟩

set_option maxRecDepth 100000 in
set_option maxHeartbeats 4000000 in
theorem comp_right {s t : ByteArray} {l m : List Nat} (w : World) (hs : s.size ≤ 300) (ht : t.size ≤ 300) (hT : Tabs w) (hl : runes s 0 = some l) (hm : runes t 0 = some m) :
    Calls Tryd.prog 5 #[.string s, .string t] w fun e w' => e = .returned (.bool true) ∧ Below w.heap.size w w' := by
  have HT := Lib.hid hT
  have HL := Lib.hid hl
  have HM := Lib.hid hm
  have hz1 := len_le hl
  have hz2 := len_le hm
  have hless := less_texts hl hm
  have hsame := same_texts hl hm
  obtain ⟨hb1, hb2⟩ := cmp_bound l m
  have hsw := cmp_swap l m
  clear hT hl hm
  generalize hc : cmp l m = c at hless hsame hb1 hb2 hsw
  generalize hk : common l m = kk
  have HC := Lib.hid hc
  have HSW := Lib.hid hsw
  have HK := Lib.hid hk
  clear hc hsw hk
  go_enter Tryd.func5, Tryd.ntmps5
  go_wp2_with fail
  refine (alive_any w HT.out).mono ?_
  rintro e w1 ⟨rfl, hb⟩
  have HB1 := Lib.hid hb
  clear hb
  go_wp2_with fail
  refine (runes_some_any w1 (by omega) HL.out).mono ?_
  rintro e w2 ⟨v, rfl, hrow, hb⟩
  have HR2 := Lib.hid hrow
  have HB2 := Lib.hid (HB1.out.trans (hb.mono HB1.out.size))
  clear hb HB1 hrow
  go_wp2_with fail
  refine (runes_some_any w2 (by omega) HM.out).mono ?_
  rintro e w3 ⟨v', rfl, hrow, hb⟩
  have HRX := Lib.hid ((HR2.out.keep (below_cells hb)).more hb.size)
  have HRY := Lib.hid hrow
  have HB3 := Lib.hid (HB2.out.trans (hb.mono HB2.out.size))
  clear hb HB2 hrow HR2
  obtain ⟨_, A, cA, rfl, hcx⟩ := ints_form HRX.out
  obtain ⟨_, A', cA', rfl, hcy⟩ := ints_form HRY.out
  have HX := Lib.hid hcx
  have HY := Lib.hid hcy
  clear hcx hcy
  go_wp2_with fail
  go_loopw [9] (fun z wr => ∃ (k n : Nat), z = .int .i64 k ∧ k ≤ l.length ∧ k ≤ m.length ∧ Hid (kk = k + common (l.drop k) (m.drop k)) ∧ Hid (wr = w3.drewN n)) (fun z _ => l.length - (intOf z).toNat)
  case atStart => exact ⟨0, 0, rfl, Nat.zero_le _, Nat.zero_le _, Lib.hid (by simp [HK.out]), Lib.hid rfl⟩
  case round =>
    obtain ⟨k, n, rfl, h1, h2, hkk, hw⟩ := hrel
    obtain rfl := hw.out
    by_cases hlt : k < l.length ∧ k < m.length
    · obtain ⟨b, o, rfl, ha⟩ := HX.out k hlt.1
      obtain ⟨b', o', rfl, hb⟩ := HY.out k hlt.2
      obtain ⟨l1, l2⟩ := hlt
      have hd := Lib.hid (common_drop l1 l2)
      generalize l.getD k 0 = p at *
      generalize m.getD k 0 = q at *
      have d1 : decide (k < l.length) = true := decide_eq_true l1
      have d2 : decide (k < m.length) = true := decide_eq_true l2
      have i1 : (k : Int) < (l.length : Int) := by omega
      have i2 : (k : Int) < (m.length : Int) := by omega
      by_cases hpq : p = q
      · have hr := Lib.hid (show kk = (k + 1 : Nat) + common (l.drop (k + 1)) (m.drop (k + 1)) by rw [hkk.out, hd.out, if_pos hpq]; omega)
        have q1 : ((p : Int) == (q : Int)) = true := by rw [hpq]; exact beq_self_eq_true _
        clear hpq
        go_wp2_with fail
        go_quiet (fail)
        go_wp2_with fail
        go_roundw
        case rel => exact ⟨k + 1, _, by go_num, by omega, by omega, hr, Lib.hid rfl⟩
        case measure => simp [intOf]; omega
      · have hkk2 := Lib.hid (show common l m = k by rw [HK.out, hkk.out, hd.out, if_neg hpq]; omega)
        have q1 : ((p : Int) == (q : Int)) = false := by rw [beq_eq_false_iff_ne]; omega
        clear hpq
        go_wp2_with fail
        go_quiet (fail)
        have HBX := Lib.hid (below_drawn HB3.out (n + nq))
        go_wp2_with fail
        refine (comp_c _ (by omega) (by omega) (HT.out.below HBX.out) HL.out HM.out c HC.out).mono ?_
        rintro e w4 ⟨rfl, hb⟩
        have HRX4 := Lib.hid ((show Row (w3.drewN (n + nq)) (w3.drewN (n + nq)).heap.size _ _ from HRX.out).keep (below_cells hb))
        have HRY4 := Lib.hid ((show Row (w3.drewN (n + nq)) (w3.drewN (n + nq)).heap.size _ _ from HRY.out).keep (below_cells hb))
        have HB4 := Lib.hid (HBX.out.trans (hb.mono HBX.out.size))
        clear hb HBX
        go_wp2_with fail
        refine (rcmp_c _ _ l m _ w4 HRX4.out HRY4.out c HC.out).mono ?_
        rintro e w5 ⟨rfl, n5, rfl⟩
        have HB5 := Lib.hid (below_drawn HB4.out n5)
        clear HB4
        go_wp2_with fail
        refine (comm_c _ (by omega) (by omega) (HT.out.below HB5.out) HL.out HM.out k hkk2.out).mono ?_
        rintro e w6 ⟨rfl, hb⟩
        have HB6 := Lib.hid (HB5.out.trans (hb.mono HB5.out.size))
        clear hb HB5
        go_wp2_with fail
        refine (comp_c _ (by omega) (by omega) (HT.out.below HB6.out) HM.out HL.out (-c) HSW.out).mono ?_
        rintro e w7 ⟨rfl, hb⟩
        have HB7 := Lib.hid (HB6.out.trans (hb.mono HB6.out.size))
        clear hb HB6
        go_wp2_with fail
        go_ret
        exact ⟨rfl, HB7.out⟩
    · have hkk2 := Lib.hid (show common l m = k by rw [HK.out, hkk.out, common_end (by omega)]; omega)
      by_cases l1 : k < l.length
      · have l2 : ¬ k < m.length := fun h => hlt ⟨l1, h⟩
        have d1 : decide (k < l.length) = true := decide_eq_true l1
        have d2 : decide (k < m.length) = false := decide_eq_false l2
        clear hlt
        go_wp2_with fail
        go_quiet (fail)
        have HBX := Lib.hid (below_drawn HB3.out (n + nq))
        go_wp2_with fail
        refine (comp_c _ (by omega) (by omega) (HT.out.below HBX.out) HL.out HM.out c HC.out).mono ?_
        rintro e w4 ⟨rfl, hb⟩
        have HRX4 := Lib.hid ((show Row (w3.drewN (n + nq)) (w3.drewN (n + nq)).heap.size _ _ from HRX.out).keep (below_cells hb))
        have HRY4 := Lib.hid ((show Row (w3.drewN (n + nq)) (w3.drewN (n + nq)).heap.size _ _ from HRY.out).keep (below_cells hb))
        have HB4 := Lib.hid (HBX.out.trans (hb.mono HBX.out.size))
        clear hb HBX
        go_wp2_with fail
        refine (rcmp_c _ _ l m _ w4 HRX4.out HRY4.out c HC.out).mono ?_
        rintro e w5 ⟨rfl, n5, rfl⟩
        have HB5 := Lib.hid (below_drawn HB4.out n5)
        clear HB4
        go_wp2_with fail
        refine (comm_c _ (by omega) (by omega) (HT.out.below HB5.out) HL.out HM.out k hkk2.out).mono ?_
        rintro e w6 ⟨rfl, hb⟩
        have HB6 := Lib.hid (HB5.out.trans (hb.mono HB5.out.size))
        clear hb HB5
        go_wp2_with fail
        refine (comp_c _ (by omega) (by omega) (HT.out.below HB6.out) HM.out HL.out (-c) HSW.out).mono ?_
        rintro e w7 ⟨rfl, hb⟩
        have HB7 := Lib.hid (HB6.out.trans (hb.mono HB6.out.size))
        clear hb HB6
        go_wp2_with fail
        go_ret
        exact ⟨rfl, HB7.out⟩
      · have d1 : decide (k < l.length) = false := decide_eq_false l1
        clear hlt
        go_wp2_with fail
        go_quiet (fail)
        have HBX := Lib.hid (below_drawn HB3.out (n + nq))
        go_wp2_with fail
        refine (comp_c _ (by omega) (by omega) (HT.out.below HBX.out) HL.out HM.out c HC.out).mono ?_
        rintro e w4 ⟨rfl, hb⟩
        have HRX4 := Lib.hid ((show Row (w3.drewN (n + nq)) (w3.drewN (n + nq)).heap.size _ _ from HRX.out).keep (below_cells hb))
        have HRY4 := Lib.hid ((show Row (w3.drewN (n + nq)) (w3.drewN (n + nq)).heap.size _ _ from HRY.out).keep (below_cells hb))
        have HB4 := Lib.hid (HBX.out.trans (hb.mono HBX.out.size))
        clear hb HBX
        go_wp2_with fail
        refine (rcmp_c _ _ l m _ w4 HRX4.out HRY4.out c HC.out).mono ?_
        rintro e w5 ⟨rfl, n5, rfl⟩
        have HB5 := Lib.hid (below_drawn HB4.out n5)
        clear HB4
        go_wp2_with fail
        refine (comm_c _ (by omega) (by omega) (HT.out.below HB5.out) HL.out HM.out k hkk2.out).mono ?_
        rintro e w6 ⟨rfl, hb⟩
        have HB6 := Lib.hid (HB5.out.trans (hb.mono HB5.out.size))
        clear hb HB5
        go_wp2_with fail
        refine (comp_c _ (by omega) (by omega) (HT.out.below HB6.out) HM.out HL.out (-c) HSW.out).mono ?_
        rintro e w7 ⟨rfl, hb⟩
        have HB7 := Lib.hid (HB6.out.trans (hb.mono HB6.out.size))
        clear hb HB6
        go_wp2_with fail
        go_ret
        exact ⟨rfl, HB7.out⟩

theorem comp_law (s t : ByteArray) (w : World) (hT : Tabs w) :
    Calls Tryd.prog 5 #[.string s, .string t] w fun e w' => e = .returned (.bool true) ∧ Below w.heap.size w w' := by
  by_cases h : 300 < s.size ∨ 300 < t.size
  · exact comp_big s t w hT h
  cases hr : runes s 0 with
  | none => exact comp_wrong s t w (by omega) (by omega) hT (.inl hr)
  | some l =>
    cases hr2 : runes t 0 with
    | none => exact comp_wrong s t w (by omega) (by omega) hT (.inr hr2)
    | some m => exact comp_right w (by omega) (by omega) hT hr hr2
end Go.Proofs.YtbjhmpjnffhioaaDoor
