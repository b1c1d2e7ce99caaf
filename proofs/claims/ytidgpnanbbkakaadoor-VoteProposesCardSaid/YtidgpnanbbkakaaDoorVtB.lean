/- The document's own proposer: firsts. -/
import Derived.Test.YtidgpnanbbkakaaDoorVtA
namespace Go.Proofs.YtidgpnanbbkakaaDoor
open Go Go.RowKit Tide

/-- Nobody's answer. -/
def noV (n : Nat) (k : Int) : Bool := decide (k < 0) || decide ((n : Int) ≤ k)
theorem old_is (n : Nat) (out : List AnsV) (k : Int) : oldV n out k = (noV n k || out.any fun b => b.frm == k) := rfl
theorem any_snoc (l : List AnsV) (j : Nat) (hj : j < l.length) (k : Int) : ((l.take (j + 1)).any fun b => b.frm == k) = (((l.take j).any fun b => b.frm == k) || l[j].frm == k) := by
  rw [List.take_succ_eq_append_getElem hj, List.any_append]; simp
theorem firsts_take (n : Nat) (l : List AnsV) (i : Nat) (hi : i < l.length) : firstsV n (l.take (i + 1)) = firstV n (firstsV n (l.take i)) l[i] := by
  rw [List.take_succ_eq_append_getElem hi, firsts_snoc]
theorem box4a {w : World} {b : Nat} {x y z u : Value} {t : TypeId} (h : w.heap[b]? = some (.cells #[x, y, z, u] t (0, 0))) : b < w.heap.size ∧ w.cell? ⟨b, 0, none⟩ = some x ∧ w.cell? ⟨b, 1, none⟩ = some y ∧ w.cell? ⟨b, 2, none⟩ = some z ∧ w.cell? ⟨b, 3, none⟩ = some u := by
  have h0 : w.cell? ⟨b, 0, none⟩ = some x := by rw [cell_of_row _ _ 0 _ _ _ h]; rfl
  exact ⟨World.block_lt_of_cell? _ _ h0, h0, by rw [cell_of_row _ _ 1 _ _ _ h]; rfl, by rw [cell_of_row _ _ 2 _ _ _ h]; rfl, by rw [cell_of_row _ _ 3 _ _ _ h]; rfl⟩
set_option maxRecDepth 100000 in
set_option maxHeartbeats 4000000 in
theorem rfirsts_any {W : World} {q n base : Nat} {v : Value} {l : List AnsV} (c0 : W.cell? ⟨q, 0, none⟩ = some (.int .i64 (n : Int))) (hv : OwnA W base v l) (hl : l.length ≤ 1000) : Calls Tryd.prog 20 #[.pointer (some ⟨q, 0, none⟩), v] W fun e w' => ∃ v', e = .returned v' ∧ OwnA w' W.heap.size v' (firstsV n l) ∧ Below W.heap.size W w' := by
  have hq := World.block_lt_of_cell? _ _ c0
  have HC0 := Lib.hid c0
  have HV := Lib.hid hv
  obtain ⟨Av, cv, rfl⟩ := hv.form
  have HNew := Lib.hid (OwnA.new W W.heap.size (Nat.le_refl _) W.heap.size rfl)
  have HB0 := Lib.hid ((Below.refl W.heap.size W).alloc (Nat.le_refl _) (.cells #[] 43))
  obtain ⟨L, hL⟩ : ∃ L, l.length = L := ⟨_, rfl⟩
  rw [hL]
  have HL := Lib.hid hL
  have hL1 : L ≤ 1000 := by omega
  clear hv hl hL
  go_enter Tryd.func20, Tryd.ntmps20
  go_wp2_with fail
  clear c0
  go_loopw [14, 5] (fun t s5 wr => ∃ (i m : Nat) (A : Option Addr) (c : Nat), t = .int .i64 (i : Int) ∧ s5 = .slice A m c ∧ i ≤ L ∧ m ≤ i ∧ Hid (m = (firstsV n (l.take i)).length) ∧ Hid (OwnA wr W.heap.size (.slice A m c) (firstsV n (l.take i))) ∧ Hid (Below W.heap.size W wr)) (fun t _ _ => L - (intOf t).toNat)
  case atStart => exact ⟨0, 0, _, _, rfl, rfl, Nat.zero_le _, Nat.le_refl _, Lib.hid rfl, HNew, HB0⟩
  case round =>
    clear HNew HB0
    obtain ⟨i, m, A, c, rfl, rfl, hi, hmi, hm, hO, hB⟩ := hrel
    by_cases hlt : i < L
    rotate_left
    · have q2 : decide ((i : Int) < (L : Int)) = false := decide_eq_false (by omega)
      have e : i = L := by omega
      have HE := Lib.hid (show OwnA wr W.heap.size (.slice A m c) (firstsV n l) from by
        have := hO.out
        rw [e, ← HL.out, List.take_length] at this
        exact this)
      clear e
      go_wp2_with fail
      go_ret
      exact ⟨_, rfl, HE.out, hB.out⟩
    have q2 : decide ((i : Int) < (L : Int)) = true := decide_eq_true (by omega)
    obtain ⟨gv, cv', hve, hgl, x0, x1, x2, x3⟩ := HV.out.cells (i := i) (by rw [HL.out]; exact hlt)
    injection hve with e1 _ e3
    subst e1 e3
    obtain ⟨a, ha⟩ : ∃ a : AnsV, a = l[i]'(by rw [HL.out]; exact hlt) := ⟨_, rfl⟩
    rw [← ha] at x0 x1 x2 x3
    have HA := Lib.hid ha
    have hc := below_cells hB.out
    have d0 := (hc _ _ hgl).trans x0
    have d1 := (hc _ _ hgl).trans x1
    have d2 := (hc _ _ hgl).trans x2
    have d3 := (hc _ _ hgl).trans x3
    have p0 := (hc _ _ hq).trans HC0.out
    have hqr : q < wr.heap.size := Nat.lt_of_lt_of_le hq hB.out.size
    obtain ⟨fr, ys, ba, tx⟩ := a
    simp only at d0 d1 d2 d3
    have hbx := heap_alloc_new wr (.cells #[.int .i64 fr, .bool ys, .int .i64 ba, .string tx] 43)
    have hb1 := (Below.refl wr.heap.size wr).alloc (Nat.le_refl _) (.cells #[.int .i64 fr, .bool ys, .int .i64 ba, .string tx] 43)
    have HX1 := Lib.hid hbx
    have HO1 := Lib.hid (hO.out.below hb1)
    have HB1 := Lib.hid (hB.out.trans (hb1.mono hB.out.size))
    obtain ⟨N0, hN0⟩ : ∃ N0, noV n fr = N0 := ⟨_, rfl⟩
    have HN0 := Lib.hid hN0
    clear x0 x1 x2 x3 ha hc hbx hb1 hO hB hgl
    have hN1 : (decide (fr < 0) || decide ((n : Int) ≤ fr)) = N0 := hN0
    clear hN0
    cases q0 : decide (fr < 0)
    focus
      cases q1 : decide ((n : Int) ≤ fr)
      focus
        rw [q0, q1] at hN1
        subst hN1
        go_wp2_with fail
        go_quiet (fail)
        go_wp2_with fail
      rotate_left
      focus
        rw [q0, q1] at hN1
        subst hN1
        go_wp2_with fail
        go_quiet (fail)
        go_wp2_with fail
    rotate_left
    rotate_left
    focus
      rw [q0] at hN1
      subst hN1
      go_wp2_with fail
      go_quiet (fail)
      go_wp2_with fail
    all_goals
      obtain ⟨w2, hw2⟩ : ∃ w2, (wr.alloc (.cells #[.int .i64 fr, .bool ys, .int .i64 ba, .string tx] 43)).drewN nq = w2 := ⟨_, rfl⟩
      rw [hw2]
      have HO2 := Lib.hid (show OwnA w2 W.heap.size (.slice A m c) (firstsV n (l.take i)) from by rw [← hw2]; exact HO1.out)
      have HB2 := Lib.hid (show Below W.heap.size W w2 from by rw [← hw2]; exact ⟨HB1.out.os, HB1.out.tape, HB1.out.output, HB1.out.size, HB1.out.block⟩)
      have HX2 := Lib.hid (show w2.heap[wr.heap.size]? = some (.cells #[.int .i64 fr, .bool ys, .int .i64 ba, .string tx] 43 (0, 0)) from by rw [← hw2]; exact HX1.out)
      generalize wr.heap.size = r at *
      clear hw2 HO1 HB1 HX1 d0 d1 d2 d3 p0 hqr
      obtain ⟨F, hF⟩ : ∃ F, firstsV n (l.take i) = F := ⟨_, rfl⟩
      have HF := Lib.hid hF
      rw [hF] at HO2 hm
      clear hF
      go_loopw [32, 8] (fun t s8 wr => ∃ (j : Nat) (o : Bool), t = .int .i64 (j : Int) ∧ s8 = .bool o ∧ j ≤ m ∧ Hid (o = (noV n fr || (F.take j).any fun b => b.frm == fr)) ∧ Hid (OwnA wr W.heap.size (.slice A m c) F) ∧ Hid (Below W.heap.size W wr) ∧ Hid (wr.heap[r]? = some (.cells #[.int .i64 fr, .bool ys, .int .i64 ba, .string tx] 43 (0, 0)))) (fun t _ _ => m - (intOf t).toNat)
      case atStart => exact ⟨0, _, rfl, rfl, Nat.zero_le _, Lib.hid (by rw [HN0.out]; simp), HO2, HB2, HX2⟩
      case round =>
        clear HO2 HB2 HX2
        obtain ⟨j, o, rfl, rfl, hj, hold, hO, hB, hX⟩ := hrel
        obtain ⟨hrl, y0, y1, y2, y3⟩ := box4a hX.out
        by_cases hjl : j < m
        rotate_left
        focus
          have q3 : decide ((j : Int) < (m : Int)) = false := decide_eq_false (by omega)
          have e : j = m := by omega
          have HFi := Lib.hid (show firstsV n (l.take (i + 1)) = firstV n F ⟨fr, ys, ba, tx⟩ from by rw [firsts_take n l i (by rw [HL.out]; exact hlt), HF.out, ← HA.out])
          have HOl := Lib.hid (show oldV n F fr = o from by rw [hold.out, e, hm.out, List.take_length, old_is])
          clear e
          cases o
          focus
            have HFn := Lib.hid (show firstsV n (l.take (i + 1)) = F ++ [⟨fr, ys, ba, tx⟩] from by rw [HFi.out]; unfold firstV; rw [HOl.out]; rfl)
            go_wp2_with (at_builtin; refine wpList_pushA rfl (.tmp 47) (.tmp 49) rfl ⟨fr, ys, ba, tx⟩ rfl rfl hO.out (by have := hm.out; omega) hB.out.size ?_; intro g cap w3 h1 h2 h3 h4)
            have HO3 := Lib.hid (by have := h1; rw [← HFn.out] at this; exact this)
            have HB3 := Lib.hid (hB.out.trans h4)
            have HL3 := Lib.hid (show F.length + 1 = (firstsV n (l.take (i + 1))).length from by rw [HFn.out, List.length_append]; rfl)
            have hml := hm.out
            clear h1 h2 h3 h4 hrl y0 y1 y2 y3
            go_wp2_with fail
            go_roundw
            case rel => exact ⟨i + 1, F.length + 1, some ⟨g, 0, none⟩, cap, by go_num, rfl, by omega, by omega, HL3, HO3, HB3⟩
            case measure => simp [intOf]; omega
          focus
            have HFn := Lib.hid (show firstsV n (l.take (i + 1)) = F from by rw [HFi.out]; unfold firstV; rw [HOl.out]; rfl)
            have HO3 := Lib.hid (show OwnA wr W.heap.size (.slice A m c) (firstsV n (l.take (i + 1))) from by rw [HFn.out]; exact hO.out)
            have HL3 := Lib.hid (show m = (firstsV n (l.take (i + 1))).length from by rw [HFn.out]; exact hm.out)
            clear hrl y0 y1 y2 y3
            go_wp2_with fail
            go_roundw
            case rel => exact ⟨i + 1, m, A, c, by go_num, rfl, by omega, by omega, HL3, HO3, hB⟩
            case measure => simp [intOf]; omega
        have q3 : decide ((j : Int) < (m : Int)) = true := decide_eq_true (by omega)
        obtain ⟨g2, c2, hve, hg2, z0, z1, z2, z3⟩ := hO.out.cells (i := j) (by rw [← hm.out]; exact hjl)
        injection hve with e1 _ e3
        subst e1 e3
        obtain ⟨x, hx⟩ : ∃ x : AnsV, x = F[j]'(by rw [← hm.out]; exact hjl) := ⟨_, rfl⟩
        rw [← hx] at z0 z1 z2 z3
        have HNx := Lib.hid (show (noV n fr || (F.take (j + 1)).any fun b => b.frm == fr) = (o || x.frm == fr) from by rw [any_snoc F j (by rw [← hm.out]; exact hjl), hx, hold.out, Bool.or_assoc])
        obtain ⟨xf, xy, xb, xt⟩ := x
        simp only at z0 z1 z2 z3 HNx
        have hb3 := (Below.refl wr.heap.size wr).alloc (Nat.le_refl _) (.cells #[.int .i64 xf, .bool xy, .int .i64 xb, .string xt] 43)
        have HO3 := Lib.hid (hO.out.below hb3)
        have HB3 := Lib.hid (hB.out.trans (hb3.mono hB.out.size))
        have HX3 := Lib.hid ((Kept.of_below (F := fun _ => False) hb3).heap hX.out (fun h => h))
        clear hb3 hx hO hB hX hg2
        cases o
        focus
          go_wp2_with fail
          go_roundw
          case rel => exact ⟨j + 1, (xf == fr), by go_num, by simp, by omega, Lib.hid (by rw [HNx.out]; simp), HO3, HB3, HX3⟩
          case measure => simp [intOf]; omega
        focus
          go_wp2_with fail
          go_roundw
          case rel => exact ⟨j + 1, true, by go_num, rfl, by omega, Lib.hid (by rw [HNx.out]; rfl), HO3, HB3, HX3⟩
          case measure => simp [intOf]; omega
end Go.Proofs.YtidgpnanbbkakaaDoor
