/- What a reader's Num and Text answer. -/
import Derived.Test.YtcddgllckadodaaDoorGPackIn
import Derived.Test.YtcddgllckadodaaDoorGConv
import Derived.Test.YtcddgllckadodaaDoorGPackD
namespace Go.Proofs.YtcddgllckadodaaDoor
open Go.RowKit Tide

theorem rd_le (l : List UInt8) : (rdNum l).2.2 ≤ l.length := by
  unfold rdNum
  have hh := high_le 8 l
  cases e : l[high 8 l]? with
  | none => simp
  | some b =>
    have := (List.getElem?_eq_some_iff.1 e).1
    simp only
    split <;> simp <;> omega
theorem rd_bad (l : List UInt8) (h : (rdNum l).1 ≠ 0) : (rdNum l).2.1 = 0 ∧ (rdNum l).2.2 = 0 := by
  unfold rdNum at *
  cases e : l[high 8 l]? with
  | none => simp
  | some b =>
    rw [e] at h
    simp only at h ⊢
    split
    · simp
    · rename_i hc
      rw [if_neg hc] at h
      exact absurd rfl h
/-- What Num answers. -/
abbrev NumIR (a : Nat → Addr) (W : World) (F : Nat → Prop) (B p : Nat) (l : List UInt8) (e : Nat) (most : Int) : Ending → World → Prop :=
  InR (InS a) W F B p (inNum l e most).1 (inNum l e most).2.1 fun v _ => v = .int .i64 ((inNum l e most).2.2 : Nat)

theorem inum_err (a : Nat → Addr) (W : World) (F : Nat → Prop) (B p : Nat) (l : List UInt8) (m : Nat) (most : Int) (h : InS a W F B p l (m + 1)) :
    Calls Tryd.prog 24 #[.pointer (some ⟨p, 0, none⟩), .int .i64 most] W (NumIR a W F B p l (m + 1) most) := by
  have hN := Lib.hid (show inNum l (m + 1) most = (l, m + 1, 0) from if_pos (by omega))
  have H := Lib.hid h
  obtain ⟨A, c, x, h4, h5, _⟩ := inS_form h
  obtain ⟨_, g0, g1, gf⟩ := h4.facts
  clear h h4
  rcases h5 with ⟨h0, _⟩ | ⟨m', hm, _, rfl⟩
  · omega
  · go_enter Tryd.func24, Tryd.ntmps24
    go_wp2_with fail
    go_ret
    exact ⟨_, F, rfl, by rw [hN.out]; rfl, by rw [hN.out]; exact H.out, fun k hf => .inl hf, Kept.refl _ _⟩

set_option maxHeartbeats 1000000 in
theorem inum_ok (a : Nat → Addr) (W : World) (F : Nat → Prop) (B p : Nat) (l : List UInt8) (most : Int) (h : InS a W F B p l 0) (hl : l.length ≤ 100000) (hE : Errs W a) :
    Calls Tryd.prog 24 #[.pointer (some ⟨p, 0, none⟩), .int .i64 most] W (NumIR a W F B p l 0 most) := by
  have H := Lib.hid h
  obtain ⟨A, c, x, h4, h5, h6⟩ := inS_form h
  have H4 := Lib.hid h4
  have hx : x = .nilIface := by
    rcases h5 with ⟨_, h⟩ | ⟨m, _, h0, _⟩
    · exact h
    · omega
  subst hx
  obtain ⟨_, g0, g1, gf⟩ := h4.facts
  have cN := Lib.hid (number_any a (.slice A l.length c) l W.heap.size W (h6.bytes (fun k hf => (h.2.2.1 k hf.1).2)) hl hE)
  have HE := Lib.hid hE
  by_cases hbad : (rdNum l).1 = 0
  · obtain ⟨A', c', l', hl', hcut, hbi⟩ := cutIn_l h6 (rdNum l).2.2 ((rdNum l).2.2 : Nat) rfl (rd_le l)
    have HBI := Lib.hid hbi
    have hB0 := Lib.hid hbad
    have hN := Lib.hid (show inNum l 0 most = if most < ((rdNum l).2.1 : Int) then (l', 1, 0) else (l', 0, (rdNum l).2.1) by
      unfold inNum; rw [if_neg (by simp), if_neg (by rw [hbad]; simp), hl'.out])
    have hnum := cN.out
    unfold NumberR at hnum
    have hc2 := Lib.hid hnum
    clear cN hnum hbad h4 h6 h hE hbi h5
    generalize (rdNum l).2.1 = n at *
    generalize (rdNum l).2.2 = k at *
    generalize (rdNum l).1 = er at *
    obtain rfl := hB0.out
    go_enter Tryd.func24, Tryd.ntmps24
    go_wp2_with fail
    refine hc2.out.mono ?_
    rintro e w1 ⟨x1, rfl, hx1, hb1⟩
    have hx1n : x1 = .nilIface := by
      rcases hx1 with ⟨_, h⟩ | ⟨m, _, h0, _⟩
      · exact h
      · omega
    rw [hx1n]
    have HB1 := Lib.hid hb1
    have T1 := Lib.hid (H4.out.below hb1 H4.out.lt)
    obtain ⟨_, k0, k1, kf⟩ := T1.out.facts
    have hg := (HE.out.below hb1).var 0 (by omega)
    simp only [evars, List.getD_cons_zero] at hg
    have hgp : ¬ p = 2 := fun e => (H.out.2.2.2.1 0 (by omega)).1 (by rw [show evars.getD 0 0 = 2 from rfl, ← e]; exact H.out.2.1)
    have hin := Lib.hid (inS_keep H.out (Kept.of_below (F := fun _ => False) hb1) (fun _ _ h => h))
    have hbi1 := Lib.hid (HBI.out.kept (Kept.of_below (F := fun _ => False) hb1) (fun k hf => ⟨fun h => h, (H.out.2.2.1 k hf.1).2⟩))
    clear hx1 hb1 hx1n x1 g0 g1 gf
    by_cases hmost : most < (n : Int)
    · have hq : decide (most < (n : Int)) = true := by simp; omega
      rw [if_pos hmost] at hN
      go_wp2_with fail
      go_ret
      obtain ⟨hi, hf, hk⟩ := inS_put hin.out (w2 := (w1.setCell ⟨p, 0, none⟩ (.slice A' l'.length c')).setCell ⟨p, 1, none⟩ (errAt (a 0))) (e' := 1) (((Kept.refl (fun k => k = p) w1).setCell (p := ⟨p, 0, none⟩) (.inl rfl) _).setCell (p := ⟨p, 1, none⟩) (.inl rfl) _) ((T1.out.setA _).setB _) (isErr_at a 0 (by omega)) hbi1.out
      exact ⟨_, F, rfl, by rw [hN.out]; rfl, by rw [hN.out]; exact hi, fun k hf => .inl hf, (Kept.of_below HB1.out).trans hk (fun _ h => .inl h)⟩
    · have hq : decide (most < (n : Int)) = false := by simp; omega
      rw [if_neg hmost] at hN
      go_wp2_with fail
      go_ret
      obtain ⟨hi, hf, hk⟩ := inS_put hin.out (w2 := w1.setCell ⟨p, 0, none⟩ (.slice A' l'.length c')) (e' := 0) ((Kept.refl (fun k => k = p) w1).setCell (p := ⟨p, 0, none⟩) (.inl rfl) _) (T1.out.setA _) (isErr_nil a) hbi1.out
      exact ⟨_, F, rfl, by rw [hN.out]; rfl, by rw [hN.out]; exact hi, fun k hf => .inl hf, (Kept.of_below HB1.out).trans hk (fun _ h => .inl h)⟩
  · have hN := Lib.hid (show inNum l 0 most = (l, (rdNum l).1, 0) by unfold inNum; rw [if_neg (by simp), if_pos hbad])
    have H6 := Lib.hid h6
    have hnum := cN.out
    unfold NumberR at hnum
    have hc2 := Lib.hid hnum
    clear cN hnum h4 h6 h hE h5
    generalize (rdNum l).2.1 = n at *
    generalize (rdNum l).2.2 = k at *
    generalize (rdNum l).1 = er at *
    go_enter Tryd.func24, Tryd.ntmps24
    go_wp2_with fail
    refine hc2.out.mono ?_
    rintro e w1 ⟨x1, rfl, hx1, hb1⟩
    obtain ⟨m, hm, hem, hx1n⟩ : ∃ m, m < 19 ∧ er = m + 1 ∧ x1 = errAt (a m) := by
      rcases hx1 with ⟨h0, _⟩ | h
      · exact absurd h0 hbad
      · exact h
    rw [hx1n]
    have HB1 := Lib.hid hb1
    have T1 := Lib.hid (H4.out.below hb1 H4.out.lt)
    obtain ⟨_, k0, k1, kf⟩ := T1.out.facts
    have hin := Lib.hid (inS_keep H.out (Kept.of_below (F := fun _ => False) hb1) (fun _ _ h => h))
    have hbi1 := Lib.hid (H6.out.kept (Kept.of_below (F := fun _ => False) hb1) (fun k hf => ⟨fun h => h, (H.out.2.2.1 k hf.1).2⟩))
    have HEM := Lib.hid hem
    clear hx1 hb1 hx1n x1 g0 g1 gf hem hbad
    go_wp2_with fail
    go_ret
    obtain ⟨hi, hf, hk⟩ := inS_put hin.out (w2 := w1.setCell ⟨p, 1, none⟩ (errAt (a m))) (e' := er) ((Kept.refl (fun k => k = p) w1).setCell (p := ⟨p, 1, none⟩) (.inl rfl) _) (T1.out.setB _) (by rw [HEM.out]; exact isErr_at a m hm) hbi1.out
    exact ⟨_, F, rfl, by rw [hN.out]; rfl, by rw [hN.out]; exact hi, fun k hf => .inl hf, (Kept.of_below HB1.out).trans hk (fun _ h => .inl h)⟩
/-- Num, whatever there is. -/
theorem inum_any (a : Nat → Addr) (W : World) (F : Nat → Prop) (B p : Nat) (l : List UInt8) (e : Nat) (most : Int) (h : InS a W F B p l e) (hl : l.length ≤ 100000) (hE : Errs W a) :
    Calls Tryd.prog 24 #[.pointer (some ⟨p, 0, none⟩), .int .i64 most] W (NumIR a W F B p l e most) := by
  rcases e with _ | m
  · exact inum_ok a W F B p l most h hl hE
  · exact inum_err a W F B p l m most h
end Go.Proofs.YtcddgllckadodaaDoor

/- Pages: right lists of elder addresses; what stands at the front of what is written; when a page's parts can't be read. It walks nothing. -/
namespace Go.Proofs.YtcddgllckadodaaDoor
open Go.RowKit Tide

/-- A stream's elder addresses, as they came in. -/
structure BackD where
  stream : Int
  list : List Int
/-- Falling: each from 0 on, and below the bound that the one ahead of it gives. -/
def fallB : Int → List Int → Bool
  | _, [] => true
  | b, x :: l => (decide (0 ≤ x) && decide (x < b)) && fallB x l
/-- A right list. -/
def rightLB (l : List Int) : Bool := !decide (4 < (l.length : Int)) && fallB 4096 l
/-- A right list of each stream, in order. -/
def rightBs : List BackD → List Int → Bool
  | [], [] => true
  | d :: ds, s :: ss => (decide (d.stream = s) && rightLB d.list) && rightBs ds ss
  | _, _ => false

/-- What was written begins with 1. -/
def Head1 (st : Option (List UInt8)) : Prop := ∀ q, st = some q → ∃ r, q = 1 :: r
section
variable {st : Option (List UInt8)}
theorem head_map (h : Head1 st) (z : List UInt8) : Head1 (st.map (· ++ z)) := by
  intro q hq
  obtain ⟨q0, h0, rfl⟩ := Option.map_eq_some_iff.1 hq
  obtain ⟨r, rfl⟩ := h q0 h0
  exact ⟨r ++ z, rfl⟩
theorem head_num (h : Head1 st) (x : Int) : Head1 (stNum st x) := by
  unfold stNum
  split
  · exact head_map h _
  · intro q hq; cases hq
theorem head_text (h : Head1 st) (s : ByteArray) : Head1 (stText st s) := head_map h _
theorem head_fold : ∀ (l : List Int) {st : Option (List UInt8)}, Head1 st → Head1 (l.foldl stNum st)
  | [], _, h => h
  | x :: l, _, h => head_fold l (head_num h x)
theorem head_nums (h : Head1 st) (l : List Int) : Head1 (stNums st l) := head_fold l (head_num h _)
theorem head_one : Head1 (stNum (some []) 1) := by
  intro q hq
  rw [stNum_ok (by decide)] at hq
  have e : [] ++ num7 (1 : Int).toNat = q := Option.some.inj hq
  have e1 : num7 (1 : Int).toNat = [1] := num7_lt (by decide)
  exact ⟨[], by rw [← e, e1]; rfl⟩
theorem head_done (h : Head1 st) : (∃ r, doneOf st = (1 :: r, 0) ∧ r.length ≤ 65535) ∨ ∃ k, doneOf st = ([], k + 1) := by
  cases st with
  | none => exact .inr ⟨0, rfl⟩
  | some q =>
    obtain ⟨r, rfl⟩ := h q rfl
    by_cases hq : (1 :: r : List UInt8).length ≤ 65536
    · exact .inl ⟨r, if_pos hq, by rw [List.length_cons] at hq; omega⟩
    · exact .inr ⟨2, if_neg hq⟩
end

/-- The error behind a page's first two numbers. -/
def twoE (l : List UInt8) : List UInt8 × Nat × Nat := inNum (inNum l 0 1).1 (inNum l 0 1).2.1 3
theorem two_zero : twoE [0] = ([], 2, 0) := by
  have e := inNum_ok (show 0 < 2 ^ 62 by decide) [] 1 (by decide)
  rw [num7_lt (by decide)] at e
  have e1 : inNum [0] 0 1 = ([], 0, 0) := e
  unfold twoE
  rw [e1]
  rfl
theorem two_two (r : List UInt8) : twoE (2 :: r) = (r, 1, 0) := by
  have e := rd_num7 (show 2 < 2 ^ 62 by decide) r
  rw [num7_lt (by decide)] at e
  have e1 : rdNum (2 :: r) = (0, 2, 1) := e
  have e2 : inNum (2 :: r) 0 1 = (r, 1, 0) := by
    unfold inNum
    rw [if_neg (by simp), e1]
    rfl
  unfold twoE
  rw [e2]
  rfl
end Go.Proofs.YtcddgllckadodaaDoor

/- What a reader's Text answers. -/
namespace Go.Proofs.YtcddgllckadodaaDoor
open Go.RowKit Tide

/-- A read behind a read. -/
theorem inR_trans {I : InP} {W w1 w2 : World} {F F1 : Nat → Prop} {B p er : Nat} {rest : List UInt8} {ans : Value → World → Prop} {e : Ending} (hF1 : ∀ k, F1 k → F k ∨ W.heap.size ≤ k) (hK1 : Kept F W w1) (h : InR I w1 F1 B p rest er ans e w2) : InR I W F B p rest er ans e w2 := by
  obtain ⟨v, F2, he, ha, hO, hF2, hK2⟩ := h
  refine ⟨v, F2, he, ha, hO, fun k hf => ?_, hK1.trans hK2 hF1⟩
  rcases hF2 k hf with h | h
  · exact hF1 k h
  · exact .inr (Nat.le_trans hK1.size h)
theorem inNum_len (l : List UInt8) (e : Nat) (most : Int) : (inNum l e most).1.length ≤ l.length := by
  unfold inNum
  split
  · exact Nat.le_refl _
  · split
    · exact Nat.le_refl _
    · split <;> simp
theorem inNum_zero (l : List UInt8) (e : Nat) (most : Int) (h : (inNum l e most).2.1 ≠ 0) : (inNum l e most).2.2 = 0 := by
  unfold inNum at *
  split
  · rfl
  · rename_i h1
    split
    · rfl
    · rename_i h2
      rw [if_neg h1, if_neg h2] at h
      split
      · rfl
      · rename_i h3
        rw [if_neg h3] at h
        exact absurd rfl h
theorem inNum_most (l : List UInt8) (e : Nat) (most : Int) (h : (inNum l e most).2.1 = 0) : ((inNum l e most).2.2 : Int) ≤ most := by
  unfold inNum at *
  split
  · rename_i h1
    rw [if_pos h1] at h
    exact absurd h h1
  · rename_i h1
    rw [if_neg h1] at h
    split
    · rename_i h2
      rw [if_pos h2] at h
      exact absurd h h2
    · rename_i h2
      rw [if_neg h2] at h
      split
      · rename_i h3
        rw [if_pos h3] at h
        simp at h
      · rename_i h3
        show (((rdNum l).2.1 : Nat) : Int) ≤ most
        omega

set_option maxHeartbeats 1000000 in
theorem itext_any (a : Nat → Addr) (W : World) (F : Nat → Prop) (B p : Nat) (l : List UInt8) (e : Nat) (most : Int) (h : InS a W F B p l e) (hl : l.length ≤ 100000) (hE : Errs W a) :
    Calls Tryd.prog 26 #[.pointer (some ⟨p, 0, none⟩), .int .i64 most] W
      (InR (InS a) W F B p (inText l e most).1 (inText l e most).2.1 fun v _ => v = .string ⟨(inText l e most).2.2.toArray⟩) := by
  have HE := Lib.hid hE
  have H := Lib.hid h
  have hn := inum_any a W F B p l e most h hl hE
  unfold NumIR at hn
  have hz := inNum_zero l e most
  have hln := Nat.le_trans (inNum_len l e most) hl
  obtain ⟨r, hr⟩ : ∃ r, inNum l e most = r := ⟨_, rfl⟩
  have hT : inText l e most = if r.2.1 ≠ 0 then (r.1, r.2.1, []) else if r.1.length < r.2.2 then (r.1, 2, []) else (r.1.drop r.2.2, 0, r.1.take r.2.2) := by
    unfold inText
    rw [hr]
  rw [hr] at hn hz hln
  obtain ⟨l1, e1, n⟩ := r
  simp only at hn hz hln hT
  have CN := Lib.hid hn
  clear hE h hl hn hr
  go_enter Tryd.func26, Tryd.ntmps26
  go_wp2_with fail
  refine CN.out.mono ?_
  rintro en w1 ⟨v, F1, rfl, rfl, hI1, hF1, hK1⟩
  have HI1 := Lib.hid hI1
  have HF1 := Lib.hid hF1
  have HK1 := Lib.hid hK1
  obtain ⟨A, c, x, h4, h5, h6⟩ := inS_form hI1
  have H4 := Lib.hid h4
  have H5 := Lib.hid h5
  obtain ⟨_, g0, g1, gf⟩ := h4.facts
  have HE1 := Lib.hid (HE.out.kept hK1 H.out.2.2.2.1)
  have hx : (∃ b, x = errAt b) ∨ x = .nilIface := by
    rcases h5 with ⟨_, h⟩ | ⟨m, _, _, h⟩
    · exact .inr h
    · exact .inl ⟨_, h⟩
  by_cases hlong : l1.length < n
  · have he1 : e1 = 0 := by
      rcases Nat.eq_zero_or_pos e1 with h | h
      · exact h
      · have := hz (by omega); omega
    subst he1
    rw [if_neg (by simp), if_pos hlong] at hT
    have HT := Lib.hid hT
    have H6 := Lib.hid h6
    have hq : decide ((l1.length : Int) < (n : Int)) = true := decide_eq_true (by omega)
    have hg := HE1.out.var 1 (by omega)
    simp only [evars, List.getD_cons_zero, List.getD_cons_succ] at hg
    clear hI1 hF1 hK1 h4 h5 h6 hz hT
    rcases hx with ⟨b, rfl⟩ | rfl
    · exfalso
      rcases H5.out with ⟨_, h⟩ | ⟨m, _, h0, _⟩
      · cases h
      · omega
    go_wp2_with fail
    go_ret
    obtain ⟨hi, hf, hk⟩ := inS_put HI1.out (w2 := w1.setCell ⟨p, 1, none⟩ (errAt (a 1))) (e' := 2) ((Kept.refl (fun k => k = p) w1).setCell (p := ⟨p, 1, none⟩) (.inl rfl) _) (H4.out.setB _) (isErr_at a 1 (by omega)) H6.out
    exact inR_trans HF1.out HK1.out ⟨_, F1, rfl, by rw [HT.out]; rfl, by rw [HT.out]; exact hi, fun k hf => .inl hf, hk⟩
  · obtain ⟨A', c', l', hl', hcut, hbi⟩ := cutIn_l h6 n (n : Nat) rfl (by omega)
    obtain ⟨A2, c2, l2, hl2, hcut2, hb2⟩ := cut_h (h6.bytes (B := w1.heap.size) (fun k hf => (hI1.2.2.1 k hf.1).2)) n (n : Nat) rfl (by omega)
    have cv := conv_bytes hb2
    have hT2 : inText l e most = (l', e1, l2) := by
      rw [hT, hl'.out, hl2.out]
      by_cases he : e1 = 0
      · rw [if_neg (by simpa using he), if_neg (by omega), he]
      · have hn0 : n = 0 := hz he
        rw [if_pos he, hn0]
        simp
    have HT := Lib.hid hT2
    have HBI := Lib.hid hbi
    have hq : decide ((l1.length : Int) < (n : Int)) = false := decide_eq_false (by omega)
    have hnl : ¬ l1.length < n := hlong
    clear hI1 hF1 hK1 h4 h5 h6 hz hT hT2 hbi hb2 hx hlong
    go_wp2_with fail
    go_ret
    obtain ⟨hi, hf, hk⟩ := inS_put HI1.out (w2 := w1.setCell ⟨p, 0, none⟩ (.slice A' l'.length c')) (e' := e1) ((Kept.refl (fun k => k = p) w1).setCell (p := ⟨p, 0, none⟩) (.inl rfl) _) (H4.out.setA _) H5.out HBI.out
    exact inR_trans HF1.out HK1.out ⟨_, F1, rfl, by rw [HT.out]; rfl, by rw [HT.out]; exact hi, fun k hf => .inl hf, hk⟩
end Go.Proofs.YtcddgllckadodaaDoor

/- Package page's parts, of bytes whose first two numbers can't be read. -/
namespace Go.Proofs.YtcddgllckadodaaDoor
open Go.RowKit Tide

/-- A reader of the call's own, in memory that was w. -/
def RB (a : Nat → Addr) (w : World) (B p : Nat) (l : List UInt8) (e : Nat) (W : World) : Prop := ∃ F, InS a W F B p l e ∧ (∀ k, F k → w.heap.size ≤ k) ∧ Below w.heap.size w W
section
variable {a : Nat → Addr} {w W : World} {B p e : Nat} {l : List UInt8}
theorem RB.below (h : RB a w B p l e W) : Below w.heap.size w W := by
  obtain ⟨_, _, _, h⟩ := h
  exact h
theorem RB.errs (h : RB a w B p l e W) (hE : Errs w a) : Errs W a := hE.below h.below
theorem RB.did {W' : World} {F F' : Nat → Prop} {l' : List UInt8} {e' : Nat} (hF : ∀ k, F k → w.heap.size ≤ k) (hb : Below w.heap.size w W) (h1 : InS a W' F' B p l' e') (h2 : ∀ k, F' k → F k ∨ W.heap.size ≤ k) (h3 : Kept F W W') : RB a w B p l' e' W' :=
  ⟨F', h1, fun i hi => (h2 i hi).elim (hF i) (fun hw => Nat.le_trans hb.size hw), Below.kept hb h3 hb.size hF⟩
theorem RB.num (h : RB a w B p l e W) (hE : Errs w a) (hl : l.length ≤ 100000) (most : Int) : Calls Tryd.prog 24 #[.pointer (some ⟨p, 0, none⟩), .int .i64 most] W fun en W' => en = .returned (.int .i64 ((inNum l e most).2.2 : Nat)) ∧ RB a w B p (inNum l e most).1 (inNum l e most).2.1 W' := by
  have hE' := h.errs hE
  obtain ⟨F, hO, hF, hb⟩ := h
  have hc := inum_any a W F B p l e most hO hl hE'
  unfold NumIR at hc
  exact hc.mono fun _ _ ⟨v, F2, he, hv, hO2, hF2, hK2⟩ => ⟨by rw [he, hv], RB.did hF hb hO2 hF2 hK2⟩
theorem RB.text (h : RB a w B p l e W) (hE : Errs w a) (hl : l.length ≤ 100000) (most : Int) : Calls Tryd.prog 26 #[.pointer (some ⟨p, 0, none⟩), .int .i64 most] W fun en W' => en = .returned (.string ⟨(inText l e most).2.2.toArray⟩) ∧ RB a w B p (inText l e most).1 (inText l e most).2.1 W' := by
  have hE' := h.errs hE
  obtain ⟨F, hO, hF, hb⟩ := h
  exact (itext_any a W F B p l e most hO hl hE').mono fun _ _ ⟨v, F2, he, hv, hO2, hF2, hK2⟩ => ⟨by rw [he, hv], RB.did hF hb hO2 hF2 hK2⟩
theorem RB.fin (h : RB a w B p l e W) (hE : Errs w a) : Calls Tryd.prog 27 #[.pointer (some ⟨p, 0, none⟩)] W fun en W' => (∃ x, en = .returned x ∧ IsErr a x (inEnd l e)) ∧ Below w.heap.size w W' := by
  have hE' := h.errs hE
  obtain ⟨F, hO, hF, hb⟩ := h
  exact (end_any a W F B p l e hO hE').mono fun _ _ ⟨h1, h2⟩ => ⟨h1, hb.trans (h2.mono hb.size)⟩
end

set_option maxHeartbeats 1000000 in
theorem parts_bad (a : Nat → Addr) (v : Value) (B : Nat) (l : List UInt8) (k : Nat) (w : World) (hv : Bytes w B v l) (hB : B ≤ w.heap.size) (hl : l.length ≤ 100000) (hk : (twoE l).2.1 = k + 1) (hE : Errs w a) :
    Calls Tryd.prog 12 #[v] w fun e w' => (∃ (z : Int) (x : Value), e = .returned (.tuple #[.int .i64 z, .slice none 0 0, .string ⟨#[]⟩, x]) ∧ IsErr a x (k + 1)) ∧ Below w.heap.size w w' := by
  have HE := Lib.hid hE
  have CP := Lib.hid (pread_any a w v B l hv hB hl hE)
  obtain ⟨n1, hn1⟩ : ∃ n1, inNum l 0 1 = n1 := ⟨_, rfl⟩
  obtain ⟨n2, hn2⟩ : ∃ n2, twoE l = n2 := ⟨_, rfl⟩
  have h2 : inNum n1.1 n1.2.1 3 = n2 := by rw [← hn1]; exact hn2
  have L1 := Lib.hid (show n1.1.length ≤ 100000 from by rw [← hn1]; exact Nat.le_trans (inNum_len l 0 1) hl)
  have L2 := Lib.hid (show n2.1.length ≤ 100000 from by rw [← h2]; exact Nat.le_trans (inNum_len _ _ _) L1.out)
  have L0 := Lib.hid hl
  rw [hn2] at hk
  have hz : n2.2.2 = 0 := by
    have := inNum_zero n1.1 n1.2.1 3
    rw [h2] at this
    exact this (by omega)
  obtain ⟨l2, e2, z2⟩ := n2
  obtain ⟨l1, e1, z1⟩ := n1
  simp only at *
  subst hk hz
  have HN1 := Lib.hid hn1
  have H2 := Lib.hid h2
  clear hv hE hn1 hn2 h2 hl
  go_enter Tryd.func12, Tryd.ntmps12
  go_wp2_with fail
  refine CP.out.mono ?_
  rintro en w1 ⟨p, F, rfl, hI, hF, hb⟩
  have R1 := Lib.hid (show RB a w B p l 0 w1 from ⟨F, hI, hF, hb⟩)
  have C1 := R1.out.num HE.out L0.out 1
  rw [HN1.out] at C1
  have HC1 := Lib.hid C1
  clear hI hF hb C1 CP
  go_wp2_with fail
  refine HC1.out.mono ?_
  rintro en w2 ⟨rfl, hr⟩
  have R2 := Lib.hid hr
  have C2 := R2.out.num HE.out L1.out 3
  rw [H2.out] at C2
  have HC2 := Lib.hid C2
  clear hr C2
  go_wp2_with fail
  refine HC2.out.mono ?_
  rintro en w3 ⟨rfl, hr⟩
  have R3 := Lib.hid hr
  have C3 := R3.out.text HE.out L2.out 2048
  rw [inText_err (by simp)] at C3
  have HC3 := Lib.hid C3
  clear hr C3
  go_wp2_with fail
  refine wp_loop_rounds 1 ?_
  rw [rounds_succ]
  go_wp2_with fail
  refine HC3.out.mono ?_
  rintro en w4 ⟨rfl, hr⟩
  have R4 := Lib.hid hr
  have C4 := R4.out.fin HE.out
  have HC4 := Lib.hid C4
  clear hr C4
  go_wp2_with fail
  refine HC4.out.mono ?_
  rintro en w5 ⟨⟨x, rfl, hx⟩, hb⟩
  have HX := Lib.hid (show IsErr a x (k + 1) from by
    have h9 : inEnd l2 (k + 1) = k + 1 := if_pos (by simp)
    rwa [h9] at hx)
  have HB5 := Lib.hid hb
  clear hx hb
  go_wp2_with fail
  exact bodyPost_ret (v := .tuple #[.int .i64 (z1 : Nat), .slice none 0 0, .string ⟨#[]⟩, x]) (by simp [results, Tryd.results12, go_sem]) rfl ⟨⟨_, _, rfl, HX.out⟩, HB5.out⟩
end Go.Proofs.YtcddgllckadodaaDoor
