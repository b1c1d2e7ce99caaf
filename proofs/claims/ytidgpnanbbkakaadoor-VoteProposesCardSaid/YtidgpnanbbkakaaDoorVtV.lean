/- Package vote's Voter: Prepare, Accept, Promised, Accepted. -/
import Derived.Test.YtidgpnanbbkakaaDoorVtM
namespace Go.Proofs.YtidgpnanbbkakaaDoor
open Go Go.RowKit Tide

/-- A voter is one that may be. -/
structure OkVo (h : Int → HeldV) : Prop where
  low : ∀ m, -1 ≤ (h m).promised ∧ -1 ≤ (h m).accepted
/-- One matter changed. -/
def updI (h : Int → HeldV) (k : Int) (x : HeldV) : Int → HeldV := fun m => if m = k then x else h m
theorem updI_self (h : Int → HeldV) (k : Int) : updI h k (h k) = h := by
  funext m
  unfold updI
  split
  · rename_i e; rw [e]
  · rfl
section
variable {W W' : World} {q n : Nat} {o : Option Nat} {h : Int → HeldV}
theorem VotW.mono (H : VotW W q o n h) {m : Nat} (hm : n ≤ m) : VotW W q o m h := by
  refine ⟨H.cell, ?_⟩
  obtain ⟨g, h1, h2⟩ := H.map
  refine ⟨g, h1, h2.imp id ?_⟩
  rintro ⟨b, rfl, h3⟩
  exact ⟨b, rfl, h3.mono hm⟩
/-- What a call leaves of a voter. -/
def VotB (W : World) (q : Nat) (o : Option Nat) (n : Nat) (h : Int → HeldV) (w' : World) : Prop := ∃ o', VotW w' q o' n h ∧ Kept (fun j => j = q ∨ o = some j) W w' ∧ ∀ b, o' = some b → o = some b ∨ W.heap.size ≤ b
theorem VotW.stay (H : VotW W q o n h) (hb : Below W.heap.size W W') : VotB W q o (n + 1) h W' := ⟨o, (H.below hb).mono (Nat.le_succ n), Kept.of_below hb, fun _ h => .inl h⟩
theorem VotB.late {W1 : World} (hb : Below W.heap.size W W1) (H : VotB W1 q o n h W') : VotB W q o n h W' := by
  obtain ⟨o', h1, h2, h3⟩ := H
  exact ⟨o', h1, (Kept.of_below (F := fun j => j = q ∨ o = some j) hb).trans h2 (fun i hi => .inl hi), fun b e => (h3 b e).imp id (fun h => Nat.le_trans hb.size h)⟩
/-- A block of the call's own, written besides. -/
theorem VotB.write {W1 : World} (H : VotB W q o n h W1) {r : Nat} {cs : Array Value} {t : TypeId} (hr : W.heap.size ≤ r) (hq : q < W.heap.size) (hc : W1.heap[r]? = some (.cells cs t (0, 0))) (hk : Kept (fun j => j = r) W1 W') : VotB W q o n h W' := by
  obtain ⟨o', h1, h2, h3⟩ := H
  refine ⟨o', h1.kept hk (fun j hj e => ?_), h2.trans hk (fun i hi => .inr (by omega)), h3⟩
  rcases hj with hj | hj
  · omega
  · obtain ⟨g, _, h4⟩ := h1.map
    rcases h4 with ⟨h4, _⟩ | ⟨b, h4, h5⟩
    · rw [h4] at hj; cases hj
    · rw [h4] at hj
      injection hj with hj
      exact h5.ne_cells hc (by omega)
theorem heldField (p a : Int) (t : ByteArray) (w : World) : (Instr.field 75 (.agg #[.int .i64 p, .int .i64 a, .string t]) 0).run Tryd.prog w = .ok (.int .i64 p) w ∧ (Instr.field 75 (.agg #[.int .i64 p, .int .i64 a, .string t]) 1).run Tryd.prog w = .ok (.int .i64 a) w ∧ (Instr.field 75 (.agg #[.int .i64 p, .int .i64 a, .string t]) 2).run Tryd.prog w = .ok (.string t) w := ⟨by kernel_rfl, by kernel_rfl, by kernel_rfl⟩
/-- A row of three cells, set anew. -/
theorem row3 {w : World} {r : Nat} {x y z : Value} {t : TypeId} (h : w.heap[r]? = some (.cells #[x, y, z] t (0, 0))) (u v s : Value) : (((w.setCell ⟨r, 0, none⟩ u).setCell ⟨r, 1, none⟩ v).setCell ⟨r, 2, none⟩ s).heap[r]? = some (.cells #[u, v, s] t (0, 0)) :=
  heap_setCell_same _ _ _ _ _ _ (heap_setCell_same _ _ _ _ _ _ (heap_setCell_same _ _ _ _ _ _ h))
theorem kept3 (w : World) (r : Nat) (x y z : Value) : Kept (fun j => j = r) w (((w.setCell ⟨r, 0, none⟩ x).setCell ⟨r, 1, none⟩ y).setCell ⟨r, 2, none⟩ z) :=
  Kept.setCell (F := fun j => j = r) (Kept.setCell (F := fun j => j = r) (Kept.setCell (F := fun j => j = r) (Kept.refl _ w) (p := ⟨r, 0, none⟩) (.inl rfl) x) (p := ⟨r, 1, none⟩) (.inl rfl) y) (p := ⟨r, 2, none⟩) (.inl rfl) z
theorem box3 {w : World} {b : Nat} {x y z : Value} {t : TypeId} (h : w.heap[b]? = some (.cells #[x, y, z] t (0, 0))) : w.cell? ⟨b, 0, none⟩ = some x ∧ w.cell? ⟨b, 1, none⟩ = some y ∧ w.cell? ⟨b, 2, none⟩ = some z ∧ ∀ i, w.frozen? ⟨b, i, none⟩ = false :=
  ⟨by rw [cell_of_row _ _ 0 _ _ _ h]; rfl, by rw [cell_of_row _ _ 1 _ _ _ h]; rfl, by rw [cell_of_row _ _ 2 _ _ _ h]; rfl, fun i => frozen_of_row _ _ i _ _ h⟩

set_option maxRecDepth 100000 in
theorem vpromised_any (H : VotW W q o n h) (k : Int) (hk : fitsI k) : Calls Tryd.prog 18 #[.pointer (some ⟨q, 0, none⟩), .int .i64 k] W fun e w' => e = .returned (.int .i64 (h k).promised) ∧ Below W.heap.size W w' := by
  have CO := Lib.hid (vof_any H k hk)
  obtain ⟨x, hx⟩ : ∃ x, h k = x := ⟨_, rfl⟩
  rw [hx] at CO ⊢
  obtain ⟨p, a, t⟩ := x
  dsimp only [heldV] at CO
  clear H hx
  go_enter Tryd.func18, Tryd.ntmps18
  go_wp2_with fail
  refine CO.out.mono ?_
  rintro e w1 ⟨rfl, hb⟩
  have HB := Lib.hid hb
  have hf := (heldField p a t w1).1
  clear hb
  go_wp2_with fail
  go_ret
  exact ⟨rfl, HB.out⟩
set_option maxRecDepth 100000 in
theorem vprepare_any (H : VotW W q o n h) (hn : n ≤ 1000000) (k b : Int) (hk : fitsI k) : Calls Tryd.prog 17 #[.pointer (some ⟨q, 0, none⟩), .int .i64 k, .int .i64 b] W fun e w' => e = .returned (.agg #[.bool (prepYes (h k) b), .int .i64 (h k).accepted, .string (h k).text]) ∧ VotB W q o (n + 1) (updI h k (prepV (h k) b)) w' := by
  have hb0 := (Below.refl W.heap.size W).alloc (Nat.le_refl _) (.cells #[.bool false, .int .i64 0, .string ⟨#[]⟩] 35)
  have H1 := Lib.hid (H.below hb0)
  have CO := Lib.hid (vof_any H1.out k hk)
  have HB0 := Lib.hid hb0
  have HK := Lib.hid hk
  have HQ := Lib.hid (show q < W.heap.size ∧ ∀ j, j = q ∨ o = some j → j < W.heap.size from ⟨H.lt, H.fp⟩)
  obtain ⟨yes, hy⟩ : ∃ y, prepYes (h k) b = y := ⟨_, rfl⟩
  rw [hy]
  obtain ⟨x, hx⟩ : ∃ x, h k = x := ⟨_, rfl⟩
  have hcmp : decide (x.promised < b) = yes := by rw [← hx]; exact hy
  have HNew := Lib.hid (show prepV x b = if yes then ⟨b, x.accepted, x.text⟩ else x from by rw [← hx]; unfold prepV; rw [hy])
  have HX := Lib.hid hx
  rw [hx] at CO ⊢
  obtain ⟨p, a, t⟩ := x
  simp only at hcmp ⊢
  clear H hb0 hk hx hy
  go_enter Tryd.func17, Tryd.ntmps17
  go_wp2_with fail
  refine CO.out.mono ?_
  rintro e w1 ⟨rfl, hb1⟩
  have hr := heap_alloc_new W (.cells #[.bool false, .int .i64 0, .string ⟨#[]⟩] 35)
  have hz0 : (W.alloc (.cells #[.bool false, .int .i64 0, .string ⟨#[]⟩] 35)).heap.size = W.heap.size + 1 := World.size_alloc _ _
  have hr1 := (Kept.of_below (F := fun _ => False) hb1).heap hr (fun h => h)
  have H2 := Lib.hid (H1.out.below hb1)
  have B1 := Lib.hid (HB0.out.trans (hb1.mono HB0.out.size))
  have hz1 := hb1.size
  rw [hz0] at hz1
  obtain ⟨r, hrr⟩ : ∃ r, W.heap.size = r := ⟨_, rfl⟩
  rw [hrr] at hr1 hz1
  have hl1 : r < w1.heap.size := by omega
  obtain ⟨d0, d1, d2, f0⟩ := box3 hr1
  have HR1 := Lib.hid hr1
  clear hb1 CO HB0 H1 hr hz0 hr1
  have HZ := Lib.hid hz1
  have HR := Lib.hid hrr
  cases yes with
  | false =>
    go_wp2_with fail
    refine bodyPost_ret (v := .agg #[.bool false, .int .i64 a, .string t]) (results_cell_row (P := Tryd.prog) Tryd.results17 _ _ r 35 _ (0, 0) _ rfl ((Below.heap_alloc _ _ _ (by simp [World.setCell]; omega)).trans (row3 HR1.out _ _ _)) Tryd.underlying35 rfl (by kernel_rfl)) rfl ⟨rfl, ?_⟩
    rw [HNew.out, if_neg (by decide), ← HX.out, updI_self]
    exact VotB.write (VotB.late B1.out (H2.out.stay (Below.refl _ _))) (r := r) (by rw [HR.out]; exact Nat.le_refl _) HQ.out.1 HR1.out ((kept3 w1 r _ _ _).alloc _)
  | true =>
    have hb2 := (Below.refl w1.heap.size w1).alloc (Nat.le_refl _) (.cells #[.int .i64 b, .int .i64 a, .string t] 75)
    have H3 := Lib.hid (H2.out.below hb2)
    have CK := Lib.hid (vkeep_any H3.out hn k HK.out ⟨b, a, t⟩)
    dsimp only [heldV] at CK
    have HR2 := Lib.hid ((Kept.of_below (F := fun _ => False) hb2).heap HR1.out (fun h => h))
    have B2 := Lib.hid (B1.out.trans (hb2.mono B1.out.size))
    have hbox := heap_alloc_new w1 (.cells #[.int .i64 b, .int .i64 a, .string t] 75)
    have HBox := Lib.hid hbox
    have hz2 : (w1.alloc (.cells #[.int .i64 b, .int .i64 a, .string t] 75)).heap.size = w1.heap.size + 1 := World.size_alloc _ _
    have HZ2 := Lib.hid hz2
    clear hb2 hbox hz2
    go_wp2_with fail
    refine CK.out.mono ?_
    rintro e w2 ⟨rfl, o', h1, h2, h3⟩
    have HV2 := Lib.hid (show VotB W q o (n + 1) (updI h k ⟨b, a, t⟩) w2 from VotB.late B2.out ⟨o', h1, h2, h3⟩)
    have hr2 := h2.heap HR2.out (fun e => by have := HQ.out.2 r e; have := HR.out; omega)
    have hx2 := h2.heap HBox.out (fun e => by have := HQ.out.2 _ e; have := HR.out; have := HZ.out; omega)
    have hl2 : r < w2.heap.size := Nat.lt_of_lt_of_le hl1 (Nat.le_trans (by have := HZ2.out; omega) h2.size)
    obtain ⟨x0, x1, x2, x3⟩ := box3 hx2
    obtain ⟨y0, y1, y2, y3⟩ := box3 hr2
    have HRR := Lib.hid hr2
    clear h1 h2 h3 hr2 hx2 CK H3 HBox d0 d1 d2 f0
    generalize w1.heap.size = x at *
    go_wp2_with fail
    refine bodyPost_ret (v := .agg #[.bool true, .int .i64 a, .string t]) (results_cell_row (P := Tryd.prog) Tryd.results17 _ _ r 35 _ (0, 0) _ rfl (row3 HRR.out _ _ _) Tryd.underlying35 rfl (by kernel_rfl)) rfl ⟨rfl, ?_⟩
    rw [HNew.out, if_pos trivial]
    exact VotB.write HV2.out (r := r) (by rw [HR.out]; exact Nat.le_refl _) HQ.out.1 HRR.out (kept3 w2 r _ _ _)
set_option maxRecDepth 100000 in
theorem vaccept_any (H : VotW W q o n h) (hn : n ≤ 1000000) (k b : Int) (hk : fitsI k) (u : ByteArray) : Calls Tryd.prog 16 #[.pointer (some ⟨q, 0, none⟩), .int .i64 k, .int .i64 b, .string u] W fun e w' => e = .returned (.bool (accYes (h k) b)) ∧ VotB W q o (n + 1) (updI h k (accV (h k) b u)) w' := by
  have CO := Lib.hid (vof_any H k hk)
  have H1 := Lib.hid H
  have HK := Lib.hid hk
  have HQ := Lib.hid (show q < W.heap.size ∧ ∀ j, j = q ∨ o = some j → j < W.heap.size from ⟨H.lt, H.fp⟩)
  obtain ⟨yes, hy⟩ : ∃ y, accYes (h k) b = y := ⟨_, rfl⟩
  rw [hy]
  obtain ⟨x, hx⟩ : ∃ x, h k = x := ⟨_, rfl⟩
  have hcmp : (decide (0 ≤ b) && decide (x.promised ≤ b)) = yes := by rw [← hx]; exact hy
  have HNew := Lib.hid (show accV x b u = if yes = true then ⟨b, b, u⟩ else x from by rw [← hx]; unfold accV; rw [hy])
  have HX := Lib.hid hx
  rw [hx] at CO ⊢
  obtain ⟨p, a, t⟩ := x
  dsimp only [heldV] at CO
  simp only at hcmp
  clear H hk hx hy
  go_enter Tryd.func16, Tryd.ntmps16
  go_wp2_with fail
  refine CO.out.mono ?_
  rintro e w1 ⟨rfl, hb1⟩
  have H2 := Lib.hid (H1.out.below hb1)
  have B1 := Lib.hid hb1
  clear hb1 CO H1
  cases yes with
  | false =>
    have HN2 := Lib.hid (show accV ⟨p, a, t⟩ b u = h k from by rw [HNew.out, if_neg (by decide)]; exact HX.out.symm)
    have HE := Lib.hid (VotB.late B1.out (H2.out.stay ((Below.refl w1.heap.size w1).alloc (Nat.le_refl _) (.cells #[.int .i64 p, .int .i64 a, .string t] 75))))
    cases q0 : decide (b < 0) with
    | true =>
      clear hcmp
      go_wp2_with fail
      go_ret
      exact ⟨rfl, by rw [HN2.out, updI_self]; exact HE.out⟩
    | false =>
      have q1 : decide (b < p) = true := by
        simp at q0 hcmp ⊢
        exact hcmp q0
      clear hcmp
      go_wp2_with fail
      go_ret
      exact ⟨rfl, by rw [HN2.out, updI_self]; exact HE.out⟩
  | true =>
    have q0 : decide (b < 0) = false := by simp at hcmp ⊢; omega
    have q1 : decide (b < p) = false := by simp at hcmp ⊢; omega
    have HN2 := Lib.hid (show accV ⟨p, a, t⟩ b u = ⟨b, b, u⟩ from by rw [HNew.out, if_pos rfl])
    have hb2 := (Below.refl w1.heap.size w1).alloc (Nat.le_refl _) (.cells #[.int .i64 b, .int .i64 b, .string u] 75)
    have H3 := Lib.hid (H2.out.below hb2)
    have CK := Lib.hid (vkeep_any H3.out hn k HK.out ⟨b, b, u⟩)
    dsimp only [heldV] at CK
    have B2 := Lib.hid (B1.out.trans (hb2.mono B1.out.size))
    clear hb2 hcmp
    go_wp2_with fail
    refine CK.out.mono ?_
    rintro e w2 ⟨rfl, o', h1, h2, h3⟩
    have HV2 := Lib.hid (show VotB W q o (n + 1) (updI h k ⟨b, b, u⟩) w2 from VotB.late B2.out ⟨o', h1, h2, h3⟩)
    clear h1 h2 h3 CK H3
    go_wp2_with fail
    go_ret
    exact ⟨rfl, by rw [HN2.out]; exact HV2.out⟩
end
end Go.Proofs.YtidgpnanbbkakaaDoor
