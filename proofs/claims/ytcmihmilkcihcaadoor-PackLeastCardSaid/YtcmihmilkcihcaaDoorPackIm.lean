/- What a reader's Num and Text answer. -/
import Derived.Test.YtcmihmilkcihcaaDoorPackIn
import Derived.Test.YtcmihmilkcihcaaDoorConv
namespace Go.Proofs.YtcmihmilkcihcaaDoor
open Go.RowKit Tide

theorem rd_le (l : List UInt8) : (rdNum l).2.2 ≤ l.length := by
  unfold rdNum
  have hh := high_le 8 l
  cases e : l[high 8 l]? with
  | none => simp
  | some b =>
    have := (List.getElem?_eq_some_iff.1 e).1
    simp only
    split <;> simp <;> omega
theorem rd_bad (l : List UInt8) (h : (rdNum l).1 ≠ 0) : (rdNum l).2.1 = 0 ∧ (rdNum l).2.2 = 0 := by
  unfold rdNum at *
  cases e : l[high 8 l]? with
  | none => simp
  | some b =>
    rw [e] at h
    simp only at h ⊢
    split
    · simp
    · rename_i hc
      rw [if_neg hc] at h
      exact absurd rfl h
/-- What Num answers. -/
abbrev NumIR (a : Nat → Addr) (W : World) (F : Nat → Prop) (B p : Nat) (l : List UInt8) (e : Nat) (most : Int) : Ending → World → Prop :=
  InR (InS a) W F B p (inNum l e most).1 (inNum l e most).2.1 fun v _ => v = .int .i64 ((inNum l e most).2.2 : Nat)

theorem inum_err (a : Nat → Addr) (W : World) (F : Nat → Prop) (B p : Nat) (l : List UInt8) (m : Nat) (most : Int) (h : InS a W F B p l (m + 1)) :
    Calls Tryd.prog 19 #[.pointer (some ⟨p, 0, none⟩), .int .i64 most] W (NumIR a W F B p l (m + 1) most) := by
  have hN := Lib.hid (show inNum l (m + 1) most = (l, m + 1, 0) from if_pos (by omega))
  have H := Lib.hid h
  obtain ⟨A, c, x, h4, h5, _⟩ := inS_form h
  obtain ⟨_, g0, g1, gf⟩ := h4.facts
  clear h h4
  rcases h5 with ⟨h0, _⟩ | ⟨m', hm, _, rfl⟩
  · omega
  · go_enter Tryd.func19, Tryd.ntmps19
    go_wp2_with fail
    go_ret
    exact ⟨_, F, rfl, by rw [hN.out]; rfl, by rw [hN.out]; exact H.out, fun k hf => .inl hf, Kept.refl _ _⟩

set_option maxHeartbeats 1000000 in
theorem inum_ok (a : Nat → Addr) (W : World) (F : Nat → Prop) (B p : Nat) (l : List UInt8) (most : Int) (h : InS a W F B p l 0) (hl : l.length ≤ 100000) (hE : Errs W a) :
    Calls Tryd.prog 19 #[.pointer (some ⟨p, 0, none⟩), .int .i64 most] W (NumIR a W F B p l 0 most) := by
  have H := Lib.hid h
  obtain ⟨A, c, x, h4, h5, h6⟩ := inS_form h
  have H4 := Lib.hid h4
  have hx : x = .nilIface := by
    rcases h5 with ⟨_, h⟩ | ⟨m, _, h0, _⟩
    · exact h
    · omega
  subst hx
  obtain ⟨_, g0, g1, gf⟩ := h4.facts
  have cN := Lib.hid (number_any a (.slice A l.length c) l W.heap.size W (h6.bytes (fun k hf => (h.2.2.1 k hf.1).2)) hl hE)
  have HE := Lib.hid hE
  by_cases hbad : (rdNum l).1 = 0
  · obtain ⟨A', c', l', hl', hcut, hbi⟩ := cutIn_l h6 (rdNum l).2.2 ((rdNum l).2.2 : Nat) rfl (rd_le l)
    have HBI := Lib.hid hbi
    have hB0 := Lib.hid hbad
    have hN := Lib.hid (show inNum l 0 most = if most < ((rdNum l).2.1 : Int) then (l', 1, 0) else (l', 0, (rdNum l).2.1) by
      unfold inNum; rw [if_neg (by simp), if_neg (by rw [hbad]; simp), hl'.out])
    have hnum := cN.out
    unfold NumberR at hnum
    have hc2 := Lib.hid hnum
    clear cN hnum hbad h4 h6 h hE hbi h5
    generalize (rdNum l).2.1 = n at *
    generalize (rdNum l).2.2 = k at *
    generalize (rdNum l).1 = er at *
    obtain rfl := hB0.out
    go_enter Tryd.func19, Tryd.ntmps19
    go_wp2_with fail
    refine hc2.out.mono ?_
    rintro e w1 ⟨x1, rfl, hx1, hb1⟩
    have hx1n : x1 = .nilIface := by
      rcases hx1 with ⟨_, h⟩ | ⟨m, _, h0, _⟩
      · exact h
      · omega
    rw [hx1n]
    have HB1 := Lib.hid hb1
    have T1 := Lib.hid (H4.out.below hb1 H4.out.lt)
    obtain ⟨_, k0, k1, kf⟩ := T1.out.facts
    have hg := (HE.out.below hb1).var 0 (by omega)
    simp only [evars, List.getD_cons_zero] at hg
    have hgp : ¬ p = 0 := fun e => (H.out.2.2.2.1 0 (by omega)).1 (by rw [show evars.getD 0 0 = 0 from rfl, ← e]; exact H.out.2.1)
    have hin := Lib.hid (inS_keep H.out (Kept.of_below (F := fun _ => False) hb1) (fun _ _ h => h))
    have hbi1 := Lib.hid (HBI.out.kept (Kept.of_below (F := fun _ => False) hb1) (fun k hf => ⟨fun h => h, (H.out.2.2.1 k hf.1).2⟩))
    clear hx1 hb1 hx1n x1 g0 g1 gf
    by_cases hmost : most < (n : Int)
    · have hq : decide (most < (n : Int)) = true := by simp; omega
      rw [if_pos hmost] at hN
      go_wp2_with fail
      go_ret
      obtain ⟨hi, hf, hk⟩ := inS_put hin.out (w2 := (w1.setCell ⟨p, 0, none⟩ (.slice A' l'.length c')).setCell ⟨p, 1, none⟩ (errAt (a 0))) (e' := 1) (((Kept.refl (fun k => k = p) w1).setCell (p := ⟨p, 0, none⟩) (.inl rfl) _).setCell (p := ⟨p, 1, none⟩) (.inl rfl) _) ((T1.out.setA _).setB _) (isErr_at a 0 (by omega)) hbi1.out
      exact ⟨_, F, rfl, by rw [hN.out]; rfl, by rw [hN.out]; exact hi, fun k hf => .inl hf, (Kept.of_below HB1.out).trans hk (fun _ h => .inl h)⟩
    · have hq : decide (most < (n : Int)) = false := by simp; omega
      rw [if_neg hmost] at hN
      go_wp2_with fail
      go_ret
      obtain ⟨hi, hf, hk⟩ := inS_put hin.out (w2 := w1.setCell ⟨p, 0, none⟩ (.slice A' l'.length c')) (e' := 0) ((Kept.refl (fun k => k = p) w1).setCell (p := ⟨p, 0, none⟩) (.inl rfl) _) (T1.out.setA _) (isErr_nil a) hbi1.out
      exact ⟨_, F, rfl, by rw [hN.out]; rfl, by rw [hN.out]; exact hi, fun k hf => .inl hf, (Kept.of_below HB1.out).trans hk (fun _ h => .inl h)⟩
  · have hN := Lib.hid (show inNum l 0 most = (l, (rdNum l).1, 0) by unfold inNum; rw [if_neg (by simp), if_pos hbad])
    have H6 := Lib.hid h6
    have hnum := cN.out
    unfold NumberR at hnum
    have hc2 := Lib.hid hnum
    clear cN hnum h4 h6 h hE h5
    generalize (rdNum l).2.1 = n at *
    generalize (rdNum l).2.2 = k at *
    generalize (rdNum l).1 = er at *
    go_enter Tryd.func19, Tryd.ntmps19
    go_wp2_with fail
    refine hc2.out.mono ?_
    rintro e w1 ⟨x1, rfl, hx1, hb1⟩
    obtain ⟨m, hm, hem, hx1n⟩ : ∃ m, m < 19 ∧ er = m + 1 ∧ x1 = errAt (a m) := by
      rcases hx1 with ⟨h0, _⟩ | h
      · exact absurd h0 hbad
      · exact h
    rw [hx1n]
    have HB1 := Lib.hid hb1
    have T1 := Lib.hid (H4.out.below hb1 H4.out.lt)
    obtain ⟨_, k0, k1, kf⟩ := T1.out.facts
    have hin := Lib.hid (inS_keep H.out (Kept.of_below (F := fun _ => False) hb1) (fun _ _ h => h))
    have hbi1 := Lib.hid (H6.out.kept (Kept.of_below (F := fun _ => False) hb1) (fun k hf => ⟨fun h => h, (H.out.2.2.1 k hf.1).2⟩))
    have HEM := Lib.hid hem
    clear hx1 hb1 hx1n x1 g0 g1 gf hem hbad
    go_wp2_with fail
    go_ret
    obtain ⟨hi, hf, hk⟩ := inS_put hin.out (w2 := w1.setCell ⟨p, 1, none⟩ (errAt (a m))) (e' := er) ((Kept.refl (fun k => k = p) w1).setCell (p := ⟨p, 1, none⟩) (.inl rfl) _) (T1.out.setB _) (by rw [HEM.out]; exact isErr_at a m hm) hbi1.out
    exact ⟨_, F, rfl, by rw [hN.out]; rfl, by rw [hN.out]; exact hi, fun k hf => .inl hf, (Kept.of_below HB1.out).trans hk (fun _ h => .inl h)⟩
/-- Num, whatever there is. -/
theorem inum_any (a : Nat → Addr) (W : World) (F : Nat → Prop) (B p : Nat) (l : List UInt8) (e : Nat) (most : Int) (h : InS a W F B p l e) (hl : l.length ≤ 100000) (hE : Errs W a) :
    Calls Tryd.prog 19 #[.pointer (some ⟨p, 0, none⟩), .int .i64 most] W (NumIR a W F B p l e most) := by
  rcases e with _ | m
  · exact inum_ok a W F B p l most h hl hE
  · exact inum_err a W F B p l m most h
end Go.Proofs.YtcmihmilkcihcaaDoor
