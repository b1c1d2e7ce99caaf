/- The library's Equal and EqualFunc of rows of whole numbers; package plan's Same. -/
import Derived.Test.YtefcbofjndnpkaaDoorGPlR
import Derived.Test.YtefcbofjndnpkaaDoorGTwo
import Derived.Deep.QuietTactic
import Derived.BigQuiet
import Derived.Laws.IdiomCopy
namespace Go.Proofs.YtefcbofjndnpkaaDoor
open Go.RowKit Tide

theorem equalI_any (u v : Value) (l m : List Int) (B B' : Nat) (w : World) (hx : Row w B u (int64s l)) (hy : Row w B' v (int64s m)) :
    Calls Tryd.prog 29 #[u, v] w fun e w' => e = .returned (.bool (decide (l = m))) ∧ Below w.heap.size w w' := by
  obtain ⟨hl, A, c, rfl, hcx⟩ := row_ints hx
  obtain ⟨hl', A', c', rfl, hcy⟩ := row_ints hy
  have HX := Lib.hid hcx
  have HY := Lib.hid hcy
  clear hx hy hcx hcy
  by_cases hne : l.length = m.length
  · have q0 : ((l.length : Int) == (m.length : Int)) = true := by rw [hne]; simp
    have q1 : ((l.length : Int) != (m.length : Int)) = false := by rw [hne]; simp
    have HNE := Lib.hid hne
    clear hne
    go_enter Tryd.func29, Tryd.ntmps29
    go_wp2_with fail
    clear q0 q1
    go_loopw [13] (fun z wr => ∃ i : Nat, z = .int .i64 i ∧ i ≤ l.length ∧ Hid (l.take i = m.take i) ∧ Hid (∃ n, wr = w.drewN n)) (fun z _ => l.length - (intOf z).toNat)
    case atStart => exact ⟨0, rfl, Nat.zero_le _, Lib.hid (by simp), Lib.hid ⟨0, rfl⟩⟩
    case round =>
      obtain ⟨i, rfl, h1, hS, hw⟩ := hrel
      obtain ⟨n, rfl⟩ := hw.out
      by_cases hlt : i < l.length
      · have hlt2 : i < m.length := by have := HNE.out; omega
        obtain ⟨b, o, rfl, _, ha⟩ := HX.out i hlt
        obtain ⟨b', o', rfl, _, hb⟩ := HY.out i hlt2
        have i1 : (i : Int) < (l.length : Int) := by omega
        have i2 : (i : Int) < (m.length : Int) := by omega
        have HS1 := Lib.hid (show (l[i] = m[i] → l.take (i + 1) = m.take (i + 1)) from fun h => by rw [take_one l i hlt, take_one m i hlt2, hS.out, h])
        have HS2 := Lib.hid (show (¬ l[i] = m[i] → ¬ l = m) from fun h e => h (by subst e; rfl))
        generalize l[i] = p at *
        generalize m[i] = q at *
        by_cases he : p = q
        · have HR := Lib.hid (HS1.out he)
          have q0 : (p == q) = true := by simp [he]
          have q1 : (p != q) = false := by simp [he]
          clear he
          go_wp2_with fail
          go_quiet (fail)
          go_wp2_with fail
          go_roundw
          case rel => exact ⟨i + 1, by go_num, by omega, HR, Lib.hid ⟨_, rfl⟩⟩
          case measure => simp [intOf]; omega
        · have HR := Lib.hid (show decide (l = m) = false from decide_eq_false (HS2.out he))
          have q0 : (p == q) = false := by simp [he]
          have q1 : (p != q) = true := by simp [he]
          clear he
          go_wp2_with fail
          go_quiet (fail)
          go_wp2_with fail
          go_ret
          exact ⟨by rw [HR.out] <;> rfl, ⟨rfl, rfl, rfl, Nat.le_refl _, fun _ _ => rfl⟩⟩
      · have HR := Lib.hid (show decide (l = m) = true from decide_eq_true (by
          have := hS.out; rwa [List.take_of_length_le (by omega), List.take_of_length_le (by have := HNE.out; omega)] at this))
        go_wp2_with fail
        go_ret
        exact ⟨by rw [HR.out] <;> rfl, ⟨rfl, rfl, rfl, Nat.le_refl _, fun _ _ => rfl⟩⟩
  · have q0 : ((l.length : Int) == (m.length : Int)) = false := by simp; omega
    have q1 : ((l.length : Int) != (m.length : Int)) = true := by simp; omega
    have HR := Lib.hid (show decide (l = m) = false from decide_eq_false (fun e => hne (by rw [e])))
    clear hne
    go_enter Tryd.func29, Tryd.ntmps29
    go_wp2_with fail
    go_ret
    exact ⟨by rw [HR.out] <;> rfl, Below.refl _ _⟩
set_option maxHeartbeats 1000000 in
theorem equalF_any (u v : Value) (cs ds : List (List Int)) (B B' : Nat) (w : World) (hx : Grid w B u cs) (hy : Grid w B' v ds) (hB : B ≤ w.heap.size) (hB' : B' ≤ w.heap.size) :
    Calls Tryd.prog 28 #[u, v, .func (.func 29) #[] #[]] w fun e w' => e = .returned (.bool (decide (cs = ds))) ∧ Below w.heap.size w w' := by
  have HU := Lib.hid (fun W (h : Below w.heap.size w W) => hx.below (h.mono hB))
  have HV := Lib.hid (fun W (h : Below w.heap.size w W) => hy.below (h.mono hB'))
  obtain ⟨hl, A, c, rfl, _⟩ := hx.form
  obtain ⟨hl', A', c', rfl, _⟩ := hy.form
  have HBU := Lib.hid hB
  have HBV := Lib.hid hB'
  clear hx hy hB hB'
  by_cases hne : cs.length = ds.length
  · have q0 : ((cs.length : Int) == (ds.length : Int)) = true := by rw [hne]; simp
    have q1 : ((cs.length : Int) != (ds.length : Int)) = false := by rw [hne]; simp
    have HNE := Lib.hid hne
    clear hne
    go_enter Tryd.func28, Tryd.ntmps28
    go_wp2_with fail
    clear q0 q1
    go_loopw [17] (fun z wr => ∃ i : Nat, z = .int .i64 i ∧ i ≤ cs.length ∧ Hid (cs.take i = ds.take i) ∧ Hid (Below w.heap.size w wr)) (fun z _ => cs.length - (intOf z).toNat)
    case atStart => exact ⟨0, rfl, Nat.zero_le _, Lib.hid (by simp), Lib.hid (Below.refl _ _)⟩
    case round =>
      obtain ⟨i, rfl, h1, hS, hb⟩ := hrel
      by_cases hlt : i < cs.length
      · have hlt2 : i < ds.length := by have := HNE.out; omega
        obtain ⟨_, A1, c1, e1, hcA⟩ := (HU.out wr hb.out).form
        obtain ⟨_, A2, c2, e2, hcB⟩ := (HV.out wr hb.out).form
        injection e1 with e1 _ e1c
        injection e2 with e2 _ e2c
        subst e1 e2 e1c e2c
        obtain ⟨b, o, x, rfl, _, ha, hr1⟩ := hcA i hlt
        obtain ⟨b', o', y, rfl, _, hb', hr2⟩ := hcB i hlt2
        have CE := Lib.hid (fun W (h : Below wr.heap.size wr W) => equalI_any x y cs[i] ds[i] B B' W (Row.keep hr1 (below_cells (h.mono (Nat.le_trans HBU.out hb.out.size)))) (Row.keep hr2 (below_cells (h.mono (Nat.le_trans HBV.out hb.out.size)))))
        obtain ⟨_, Ax, cx, rfl, _⟩ := row_ints hr1
        obtain ⟨_, Ay, cy, rfl, _⟩ := row_ints hr2
        have i1 : (i : Int) < (cs.length : Int) := by omega
        have i2 : (i : Int) < (ds.length : Int) := by omega
        have HS1 := Lib.hid (show (cs[i] = ds[i] → cs.take (i + 1) = ds.take (i + 1)) from fun h => by rw [List.take_succ_eq_append_getElem hlt, List.take_succ_eq_append_getElem hlt2, hS.out, h])
        have HS2 := Lib.hid (show (¬ cs[i] = ds[i] → ¬ cs = ds) from fun h e => h (by subst e; rfl))
        clear hr1 hr2 hcA hcB
        generalize cs[i] = p at *
        generalize ds[i] = q at *
        have DB0 := Lib.hid (Below.refl wr.heap.size wr)
        by_cases he : p = q
        · have HR := Lib.hid (HS1.out he)
          have CE1 := Lib.hid (fun W (h : Below wr.heap.size wr W) => by have := CE.out W h; rw [decide_eq_true he] at this; exact this)
          clear he CE
          go_wp2_with fail
          refine (CE1.out _ DB0.out).mono ?_
          rintro e w2 ⟨rfl, hb2⟩
          have B2 := Lib.hid (hb.out.trans (hb2.mono hb.out.size))
          clear hb2 ha hb'
          go_wp2_with fail
          go_roundw
          case rel => exact ⟨i + 1, by go_num, by omega, HR, B2⟩
          case measure => simp [intOf]; omega
        · have HR := Lib.hid (show decide (cs = ds) = false from decide_eq_false (HS2.out he))
          have CE1 := Lib.hid (fun W (h : Below wr.heap.size wr W) => by have := CE.out W h; rw [decide_eq_false he] at this; exact this)
          clear he CE
          go_wp2_with fail
          refine (CE1.out _ DB0.out).mono ?_
          rintro e w2 ⟨rfl, hb2⟩
          have B2 := Lib.hid (hb.out.trans (hb2.mono hb.out.size))
          clear hb2 ha hb'
          go_wp2_with fail
          go_ret
          exact ⟨by rw [HR.out] <;> rfl, B2.out⟩
      · have HR := Lib.hid (show decide (cs = ds) = true from decide_eq_true (by
          have := hS.out; rwa [List.take_of_length_le (by omega), List.take_of_length_le (by have := HNE.out; omega)] at this))
        go_wp2_with fail
        go_ret
        exact ⟨by rw [HR.out] <;> rfl, hb.out⟩
  · have q0 : ((cs.length : Int) == (ds.length : Int)) = false := by simp; omega
    have q1 : ((cs.length : Int) != (ds.length : Int)) = true := by simp; omega
    have HR := Lib.hid (show decide (cs = ds) = false from decide_eq_false (fun e => hne (by rw [e])))
    clear hne
    go_enter Tryd.func28, Tryd.ntmps28
    go_wp2_with fail
    go_ret
    exact ⟨by rw [HR.out] <;> rfl, Below.refl _ _⟩
set_option maxHeartbeats 1000000 in
theorem psame_any (ep ep' : Int) (cs ds : List (List Int)) (u v : Value) (B B' : Nat) (w : World) (hu : Grid w B u cs) (hv : Grid w B' v ds) (hB : B ≤ w.heap.size) (hB' : B' ≤ w.heap.size) :
    Calls Tryd.prog 11 #[planV ep u, planV ep' v] w fun e w' => e = .returned (.bool (rightB ep cs && (decide (ep = ep') && decide (cs = ds)))) ∧ Below w.heap.size w w' := by
  have HU := Lib.hid (fun W (h : Below w.heap.size w W) => hu.below (h.mono hB))
  have HV := Lib.hid (fun W (h : Below w.heap.size w W) => hv.below (h.mono hB'))
  obtain ⟨_, A, c, rfl, _⟩ := hu.form
  obtain ⟨_, A', c', rfl, _⟩ := hv.form
  have HB1 := Lib.hid hB
  have HB2 := Lib.hid hB'
  obtain ⟨w2, hw2⟩ : ∃ w2, w2 = (w.alloc (.cells #[.int .i64 ep, .slice A cs.length c] 27)).alloc (.cells #[.int .i64 ep', .slice A' ds.length c'] 27) := ⟨_, rfl⟩
  have B0 := Lib.hid (show Below w.heap.size w w2 from by rw [hw2]; exact ((Below.refl w.heap.size w).alloc (Nat.le_refl _) _).alloc (by simp) _)
  have P0 := Lib.hid (show Two w2 w.heap.size 27 (.int .i64 ep) (.slice A cs.length c) from by rw [hw2]; exact (Two.new w 27 (.int .i64 ep) (.slice A cs.length c)).below ((Below.refl _ _).alloc (Nat.le_refl _) _) (by simp))
  have Q0 := Lib.hid (show Two w2 (w.heap.size + 1) 27 (.int .i64 ep') (.slice A' ds.length c') from by
    rw [hw2]
    have := Two.new (w.alloc (.cells #[.int .i64 ep, .slice A cs.length c] 27)) 27 (.int .i64 ep') (.slice A' ds.length c')
    rwa [World.size_alloc] at this)
  have CR := Lib.hid (right_any ep cs _ B w2 (HU.out w2 B0.out) (Nat.le_trans hB B0.out.size))
  have CE := Lib.hid (fun W (h : Below w.heap.size w W) => equalF_any _ _ cs ds B B' W (HU.out W h) (HV.out W h) (Nat.le_trans HB1.out h.size) (Nat.le_trans HB2.out h.size))
  have hs2 : w2.heap.size = w.heap.size + 2 := by rw [hw2]; simp
  have HW2 := Lib.hid hw2
  obtain ⟨rb, hrb⟩ : ∃ rb, rightB ep cs = rb := ⟨_, rfl⟩
  rw [hrb] at CR
  rw [hrb]
  clear hu hv hB hB' hw2 hrb
  go_enter Tryd.func11, Tryd.ntmps11
  go_wp2_with fail
  rw [← HW2.out]
  refine CR.out.mono ?_
  rintro en w3 ⟨rfl, hb⟩
  have B3 := Lib.hid (B0.out.trans (hb.mono B0.out.size))
  obtain ⟨_, p0, p1, _⟩ := (P0.out.below hb P0.out.lt).facts
  obtain ⟨_, r0, r1, _⟩ := (Q0.out.below hb Q0.out.lt).facts
  clear hb HW2 hs2
  cases rb with
  | false =>
    go_wp2_with fail
    go_ret
    exact ⟨rfl, B3.out⟩
  | true =>
    by_cases he : ep = ep'
    · have HR := Lib.hid (show decide (ep = ep') = true from decide_eq_true he)
      have q0 : (ep == ep') = true := by simp [he]
      clear he
      have CE1 := CE.out w3 B3.out
      obtain ⟨db, hdb⟩ : ∃ db, decide (cs = ds) = db := ⟨_, rfl⟩
      rw [hdb] at CE1
      have HD := Lib.hid hdb
      have HCE := Lib.hid CE1
      clear CE1 CE hdb
      go_wp2_with fail
      refine HCE.out.mono ?_
      rintro en w4 ⟨rfl, hb⟩
      have B4 := Lib.hid (B3.out.trans (hb.mono B3.out.size))
      clear hb
      go_wp2_with fail
      go_ret
      exact ⟨by rw [HR.out, HD.out] <;> rfl, B4.out⟩
    · have HR := Lib.hid (show (decide (ep = ep') && decide (cs = ds)) = false from by rw [decide_eq_false he]; rfl)
      have q0 : (ep == ep') = false := by simp [he]
      clear he
      go_wp2_with fail
      go_ret
      exact ⟨by rw [HR.out] <;> rfl, B3.out⟩
end Go.Proofs.YtefcbofjndnpkaaDoor
