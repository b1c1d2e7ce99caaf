/- What a reader's Num and Text answer. -/
import Derived.Test.YtiafamacjpgjoaaGreatDoorGPackIn
import Derived.Test.YtiafamacjpgjoaaGreatDoorGConv
import Derived.Test.YtiafamacjpgjoaaGreatDoorGPackD
namespace Go.Proofs.YtiafamacjpgjoaaGreatDoor
open Go.RowKit Tide

theorem rd_le (l : List UInt8) : (rdNum l).2.2 ≤ l.length := by
  unfold rdNum
  have hh := high_le 8 l
  cases e : l[high 8 l]? with
  | none => simp
  | some b =>
    have := (List.getElem?_eq_some_iff.1 e).1
    simp only
    split <;> simp <;> omega
abbrev NumIR (a : Nat → Addr) (W : World) (F : Nat → Prop) (B p : Nat) (l : List UInt8) (e : Nat) (most : Int) : Ending → World → Prop :=
  InR (InS a) W F B p (inNum l e most).1 (inNum l e most).2.1 fun v _ => v = .int .i64 ((inNum l e most).2.2 : Nat)

theorem inum_err (a : Nat → Addr) (W : World) (F : Nat → Prop) (B p : Nat) (l : List UInt8) (m : Nat) (most : Int) (h : InS a W F B p l (m + 1)) :
    Calls Tryz.prog 121 #[.pointer (some ⟨p, 0, none⟩), .int .i64 most] W (NumIR a W F B p l (m + 1) most) := by
  have hN := Lib.hid (show inNum l (m + 1) most = (l, m + 1, 0) from if_pos (by omega))
  have H := Lib.hid h
  obtain ⟨A, c, x, h4, h5, _⟩ := inS_form h
  obtain ⟨_, g0, g1, gf⟩ := h4.facts
  clear h h4
  rcases h5 with ⟨h0, _⟩ | ⟨m', hm, _, rfl⟩
  · omega
  · go_enter Tryz.func121, Tryz.ntmps121
    go_wp2_with fail
    go_ret
    exact ⟨_, F, rfl, by rw [hN.out]; rfl, by rw [hN.out]; exact H.out, fun k hf => .inl hf, Kept.refl _ _⟩

set_option maxHeartbeats 1000000 in
theorem inum_ok (a : Nat → Addr) (W : World) (F : Nat → Prop) (B p : Nat) (l : List UInt8) (most : Int) (h : InS a W F B p l 0) (hl : l.length ≤ 100000) (hE : Errs W a) :
    Calls Tryz.prog 121 #[.pointer (some ⟨p, 0, none⟩), .int .i64 most] W (NumIR a W F B p l 0 most) := by
  have H := Lib.hid h
  obtain ⟨A, c, x, h4, h5, h6⟩ := inS_form h
  have H4 := Lib.hid h4
  have hx : x = .nilIface := by
    rcases h5 with ⟨_, h⟩ | ⟨m, _, h0, _⟩
    · exact h
    · omega
  subst hx
  obtain ⟨_, g0, g1, gf⟩ := h4.facts
  have cN := Lib.hid (number_any a (.slice A l.length c) l W.heap.size W (h6.bytes (fun k hf => (h.2.2.1 k hf.1).2)) hl hE)
  have HE := Lib.hid hE
  by_cases hbad : (rdNum l).1 = 0
  · obtain ⟨A', c', l', hl', hcut, hbi⟩ := cutIn_l h6 (rdNum l).2.2 ((rdNum l).2.2 : Nat) rfl (rd_le l)
    have HBI := Lib.hid hbi
    have hB0 := Lib.hid hbad
    have hN := Lib.hid (show inNum l 0 most = if most < ((rdNum l).2.1 : Int) then (l', 1, 0) else (l', 0, (rdNum l).2.1) by
      unfold inNum; rw [if_neg (by simp), if_neg (by rw [hbad]; simp), hl'.out])
    have hnum := cN.out
    unfold NumberR at hnum
    have hc2 := Lib.hid hnum
    clear cN hnum hbad h4 h6 h hE hbi h5
    generalize (rdNum l).2.1 = n at *
    generalize (rdNum l).2.2 = k at *
    generalize (rdNum l).1 = er at *
    obtain rfl := hB0.out
    go_enter Tryz.func121, Tryz.ntmps121
    go_wp2_with fail
    refine hc2.out.mono ?_
    rintro e w1 ⟨x1, rfl, hx1, hb1⟩
    have hx1n : x1 = .nilIface := by
      rcases hx1 with ⟨_, h⟩ | ⟨m, _, h0, _⟩
      · exact h
      · omega
    rw [hx1n]
    have HB1 := Lib.hid hb1
    have T1 := Lib.hid (H4.out.below hb1 H4.out.lt)
    obtain ⟨_, k0, k1, kf⟩ := T1.out.facts
    have hg := (HE.out.below hb1).var 0 (by omega)
    simp only [evars, List.getD_cons_zero] at hg
    have hgp : ¬ p = 2 := fun e => (H.out.2.2.2.1 0 (by omega)).1 (by rw [show evars.getD 0 0 = 2 from rfl, ← e]; exact H.out.2.1)
    have hin := Lib.hid (inS_keep H.out (Kept.of_below (F := fun _ => False) hb1) (fun _ _ h => h))
    have hbi1 := Lib.hid (HBI.out.kept (Kept.of_below (F := fun _ => False) hb1) (fun k hf => ⟨fun h => h, (H.out.2.2.1 k hf.1).2⟩))
    clear hx1 hb1 hx1n x1 g0 g1 gf
    by_cases hmost : most < (n : Int)
    · have hq : decide (most < (n : Int)) = true := by simp; omega
      rw [if_pos hmost] at hN
      go_wp2_with fail
      go_ret
      obtain ⟨hi, hf, hk⟩ := inS_put hin.out (w2 := (w1.setCell ⟨p, 0, none⟩ (.slice A' l'.length c')).setCell ⟨p, 1, none⟩ (errAt (a 0))) (e' := 1) (((Kept.refl (fun k => k = p) w1).setCell (p := ⟨p, 0, none⟩) (.inl rfl) _).setCell (p := ⟨p, 1, none⟩) (.inl rfl) _) ((T1.out.setA _).setB _) (isErr_at a 0 (by omega)) hbi1.out
      exact ⟨_, F, rfl, by rw [hN.out]; rfl, by rw [hN.out]; exact hi, fun k hf => .inl hf, (Kept.of_below HB1.out).trans hk (fun _ h => .inl h)⟩
    · have hq : decide (most < (n : Int)) = false := by simp; omega
      rw [if_neg hmost] at hN
      go_wp2_with fail
      go_ret
      obtain ⟨hi, hf, hk⟩ := inS_put hin.out (w2 := w1.setCell ⟨p, 0, none⟩ (.slice A' l'.length c')) (e' := 0) ((Kept.refl (fun k => k = p) w1).setCell (p := ⟨p, 0, none⟩) (.inl rfl) _) (T1.out.setA _) (isErr_nil a) hbi1.out
      exact ⟨_, F, rfl, by rw [hN.out]; rfl, by rw [hN.out]; exact hi, fun k hf => .inl hf, (Kept.of_below HB1.out).trans hk (fun _ h => .inl h)⟩
  · have hN := Lib.hid (show inNum l 0 most = (l, (rdNum l).1, 0) by unfold inNum; rw [if_neg (by simp), if_pos hbad])
    have H6 := Lib.hid h6
    have hnum := cN.out
    unfold NumberR at hnum
    have hc2 := Lib.hid hnum
    clear cN hnum h4 h6 h hE h5
    generalize (rdNum l).2.1 = n at *
    generalize (rdNum l).2.2 = k at *
    generalize (rdNum l).1 = er at *
    go_enter Tryz.func121, Tryz.ntmps121
    go_wp2_with fail
    refine hc2.out.mono ?_
    rintro e w1 ⟨x1, rfl, hx1, hb1⟩
    obtain ⟨m, hm, hem, hx1n⟩ : ∃ m, m < 19 ∧ er = m + 1 ∧ x1 = errAt (a m) := by
      rcases hx1 with ⟨h0, _⟩ | h
      · exact absurd h0 hbad
      · exact h
    rw [hx1n]
    have HB1 := Lib.hid hb1
    have T1 := Lib.hid (H4.out.below hb1 H4.out.lt)
    obtain ⟨_, k0, k1, kf⟩ := T1.out.facts
    have hin := Lib.hid (inS_keep H.out (Kept.of_below (F := fun _ => False) hb1) (fun _ _ h => h))
    have hbi1 := Lib.hid (H6.out.kept (Kept.of_below (F := fun _ => False) hb1) (fun k hf => ⟨fun h => h, (H.out.2.2.1 k hf.1).2⟩))
    have HEM := Lib.hid hem
    clear hx1 hb1 hx1n x1 g0 g1 gf hem hbad
    go_wp2_with fail
    go_ret
    obtain ⟨hi, hf, hk⟩ := inS_put hin.out (w2 := w1.setCell ⟨p, 1, none⟩ (errAt (a m))) (e' := er) ((Kept.refl (fun k => k = p) w1).setCell (p := ⟨p, 1, none⟩) (.inl rfl) _) (T1.out.setB _) (by rw [HEM.out]; exact isErr_at a m hm) hbi1.out
    exact ⟨_, F, rfl, by rw [hN.out]; rfl, by rw [hN.out]; exact hi, fun k hf => .inl hf, (Kept.of_below HB1.out).trans hk (fun _ h => .inl h)⟩
theorem inum_any (a : Nat → Addr) (W : World) (F : Nat → Prop) (B p : Nat) (l : List UInt8) (e : Nat) (most : Int) (h : InS a W F B p l e) (hl : l.length ≤ 100000) (hE : Errs W a) :
    Calls Tryz.prog 121 #[.pointer (some ⟨p, 0, none⟩), .int .i64 most] W (NumIR a W F B p l e most) := by
  rcases e with _ | m
  · exact inum_ok a W F B p l most h hl hE
  · exact inum_err a W F B p l m most h
end Go.Proofs.YtiafamacjpgjoaaGreatDoor

/- A read behind a read; what numbers that are read are. -/
namespace Go.Proofs.YtiafamacjpgjoaaGreatDoor
open Go.RowKit Tide

theorem inR_trans {I : InP} {W w1 w2 : World} {F F1 : Nat → Prop} {B p er : Nat} {rest : List UInt8} {ans : Value → World → Prop} {e : Ending} (hF1 : ∀ k, F1 k → F k ∨ W.heap.size ≤ k) (hK1 : Kept F W w1) (h : InR I w1 F1 B p rest er ans e w2) : InR I W F B p rest er ans e w2 := by
  obtain ⟨v, F2, he, ha, hO, hF2, hK2⟩ := h
  refine ⟨v, F2, he, ha, hO, fun k hf => ?_, hK1.trans hK2 hF1⟩
  rcases hF2 k hf with h | h
  · exact hF1 k h
  · exact .inr (Nat.le_trans hK1.size h)
theorem inNum_len (l : List UInt8) (e : Nat) (most : Int) : (inNum l e most).1.length ≤ l.length := by
  unfold inNum
  split
  · exact Nat.le_refl _
  · split
    · exact Nat.le_refl _
    · split <;> simp
theorem inNum_zero (l : List UInt8) (e : Nat) (most : Int) (h : (inNum l e most).2.1 ≠ 0) : (inNum l e most).2.2 = 0 := by
  unfold inNum at *
  split
  · rfl
  · rename_i h1
    split
    · rfl
    · rename_i h2
      rw [if_neg h1, if_neg h2] at h
      split
      · rfl
      · rename_i h3
        rw [if_neg h3] at h
        exact absurd rfl h
end Go.Proofs.YtiafamacjpgjoaaGreatDoor

/- What a reader's Text answers. -/
namespace Go.Proofs.YtiafamacjpgjoaaGreatDoor
open Go.RowKit Tide

set_option maxHeartbeats 1000000 in
theorem itext_any (a : Nat → Addr) (W : World) (F : Nat → Prop) (B p : Nat) (l : List UInt8) (e : Nat) (most : Int) (h : InS a W F B p l e) (hl : l.length ≤ 100000) (hE : Errs W a) :
    Calls Tryz.prog 122 #[.pointer (some ⟨p, 0, none⟩), .int .i64 most] W
      (InR (InS a) W F B p (inText l e most).1 (inText l e most).2.1 fun v _ => v = .string ⟨(inText l e most).2.2.toArray⟩) := by
  have HE := Lib.hid hE
  have H := Lib.hid h
  have hn := inum_any a W F B p l e most h hl hE
  unfold NumIR at hn
  have hz := inNum_zero l e most
  have hln := Nat.le_trans (inNum_len l e most) hl
  obtain ⟨r, hr⟩ : ∃ r, inNum l e most = r := ⟨_, rfl⟩
  have hT : inText l e most = if r.2.1 ≠ 0 then (r.1, r.2.1, []) else if r.1.length < r.2.2 then (r.1, 2, []) else (r.1.drop r.2.2, 0, r.1.take r.2.2) := by
    unfold inText
    rw [hr]
  rw [hr] at hn hz hln
  obtain ⟨l1, e1, n⟩ := r
  simp only at hn hz hln hT
  have CN := Lib.hid hn
  clear hE h hl hn hr
  go_enter Tryz.func122, Tryz.ntmps122
  go_wp2_with fail
  refine CN.out.mono ?_
  rintro en w1 ⟨v, F1, rfl, rfl, hI1, hF1, hK1⟩
  have HI1 := Lib.hid hI1
  have HF1 := Lib.hid hF1
  have HK1 := Lib.hid hK1
  obtain ⟨A, c, x, h4, h5, h6⟩ := inS_form hI1
  have H4 := Lib.hid h4
  have H5 := Lib.hid h5
  obtain ⟨_, g0, g1, gf⟩ := h4.facts
  have HE1 := Lib.hid (HE.out.kept hK1 H.out.2.2.2.1)
  have hx : (∃ b, x = errAt b) ∨ x = .nilIface := by
    rcases h5 with ⟨_, h⟩ | ⟨m, _, _, h⟩
    · exact .inr h
    · exact .inl ⟨_, h⟩
  by_cases hlong : l1.length < n
  · have he1 : e1 = 0 := by
      rcases Nat.eq_zero_or_pos e1 with h | h
      · exact h
      · have := hz (by omega); omega
    subst he1
    rw [if_neg (by simp), if_pos hlong] at hT
    have HT := Lib.hid hT
    have H6 := Lib.hid h6
    have hq : decide ((l1.length : Int) < (n : Int)) = true := decide_eq_true (by omega)
    have hg := HE1.out.var 1 (by omega)
    simp only [evars, List.getD_cons_zero, List.getD_cons_succ] at hg
    clear hI1 hF1 hK1 h4 h5 h6 hz hT
    rcases hx with ⟨b, rfl⟩ | rfl
    · exfalso
      rcases H5.out with ⟨_, h⟩ | ⟨m, _, h0, _⟩
      · cases h
      · omega
    go_wp2_with fail
    go_ret
    obtain ⟨hi, hf, hk⟩ := inS_put HI1.out (w2 := w1.setCell ⟨p, 1, none⟩ (errAt (a 1))) (e' := 2) ((Kept.refl (fun k => k = p) w1).setCell (p := ⟨p, 1, none⟩) (.inl rfl) _) (H4.out.setB _) (isErr_at a 1 (by omega)) H6.out
    exact inR_trans HF1.out HK1.out ⟨_, F1, rfl, by rw [HT.out]; rfl, by rw [HT.out]; exact hi, fun k hf => .inl hf, hk⟩
  · obtain ⟨A', c', l', hl', hcut, hbi⟩ := cutIn_l h6 n (n : Nat) rfl (by omega)
    obtain ⟨A2, c2, l2, hl2, hcut2, hb2⟩ := cut_h (h6.bytes (B := w1.heap.size) (fun k hf => (hI1.2.2.1 k hf.1).2)) n (n : Nat) rfl (by omega)
    have cv := conv_bytes hb2
    have hT2 : inText l e most = (l', e1, l2) := by
      rw [hT, hl'.out, hl2.out]
      by_cases he : e1 = 0
      · rw [if_neg (by simpa using he), if_neg (by omega), he]
      · have hn0 : n = 0 := hz he
        rw [if_pos he, hn0]
        simp
    have HT := Lib.hid hT2
    have HBI := Lib.hid hbi
    have hq : decide ((l1.length : Int) < (n : Int)) = false := decide_eq_false (by omega)
    have hnl : ¬ l1.length < n := hlong
    clear hI1 hF1 hK1 h4 h5 h6 hz hT hT2 hbi hb2 hx hlong
    go_wp2_with fail
    go_ret
    obtain ⟨hi, hf, hk⟩ := inS_put HI1.out (w2 := w1.setCell ⟨p, 0, none⟩ (.slice A' l'.length c')) (e' := e1) ((Kept.refl (fun k => k = p) w1).setCell (p := ⟨p, 0, none⟩) (.inl rfl) _) (H4.out.setA _) H5.out HBI.out
    exact inR_trans HF1.out HK1.out ⟨_, F1, rfl, by rw [HT.out]; rfl, by rw [HT.out]; exact hi, fun k hf => .inl hf, hk⟩
end Go.Proofs.YtiafamacjpgjoaaGreatDoor

/- A reader of bytes without an error, since a memory. -/
namespace Go.Proofs.YtiafamacjpgjoaaGreatDoor
open Go.RowKit Tide

theorem inText_okY {s : ByteArray} {most : Int} (h : s.size ≤ 100000) (hm : (s.size : Int) ≤ most) (r : List UInt8) : inText (text7 s ++ r) 0 most = (r, 0, s.data.toList) := by
  have e := inNum_ok (show s.size < 2 ^ 62 by omega) (s.data.toList ++ r) most hm
  have hl : s.data.toList.length = s.size := by rw [Array.length_toList]; rfl
  unfold inText text7
  rw [List.append_assoc, e]
  simp only
  rw [if_neg (by simp), if_neg (by rw [List.length_append]; omega), ← hl]
  simp
def PR (a : Nat → Addr) (W : World) (F : Nat → Prop) (B p : Nat) (l : List UInt8) (w : World) : Prop := ∃ F1, InS a w F1 B p l 0 ∧ (∀ k, F1 k → F k ∨ W.heap.size ≤ k) ∧ Kept F W w
section
variable {a : Nat → Addr} {W w w' : World} {F : Nat → Prop} {B p n : Nat} {l : List UInt8}
theorem PR.start (h : InS a W F B p l 0) : PR a W F B p l W := ⟨F, h, fun _ hk => .inl hk, Kept.refl _ _⟩
theorem PR.errs (h : PR a W F B p l w) (hE : Errs W a) (hA : Away a F) : Errs w a := by
  obtain ⟨_, _, _, hK⟩ := h
  exact hE.kept hK hA
theorem PR.trans {F1 : Nat → Prop} (hF1 : ∀ k, F1 k → F k ∨ W.heap.size ≤ k) (hK : Kept F W w) (h : PR a w F1 B p l w') : PR a W F B p l w' := by
  obtain ⟨F2, hO, hF2, hK2⟩ := h
  refine ⟨F2, hO, fun k hf => ?_, hK.trans hK2 hF1⟩
  rcases hF2 k hf with h | h
  · exact hF1 k h
  · exact .inr (Nat.le_trans hK.size h)
def PRR (a : Nat → Addr) (W : World) (F : Nat → Prop) (B p : Nat) (l : List UInt8) (v : Value) (e : Ending) (w : World) : Prop := e = .returned v ∧ PR a W F B p l w
theorem PR.num (h : PR a W F B p (num7 n ++ l) w) (hE : Errs W a) (hA : Away a F) (hn : n < 2 ^ 62) {most : Int} (hm : (n : Int) ≤ most) (hl : (num7 n ++ l).length ≤ 100000) :
    Calls Tryz.prog 121 #[.pointer (some ⟨p, 0, none⟩), .int .i64 most] w (PRR a W F B p l (.int .i64 (n : Nat))) := by
  have hE' := h.errs hE hA
  obtain ⟨F1, hO, hF1, hK⟩ := h
  have hc := inum_any a w F1 B p _ 0 most hO hl hE'
  unfold NumIR at hc
  rw [inNum_ok hn l most hm] at hc
  exact hc.mono fun _ _ ⟨v, F2, he, hv, hO2, hF2, hK2⟩ => ⟨by rw [he, hv], PR.trans hF1 hK ⟨F2, hO2, hF2, hK2⟩⟩
end
end Go.Proofs.YtiafamacjpgjoaaGreatDoor
