/- What a reader's Num and Text answer. -/
import Derived.Test.YtefcbofjndnpkaaDoorGPackIn
import Derived.Test.YtefcbofjndnpkaaDoorGConv
namespace Go.Proofs.YtefcbofjndnpkaaDoor
open Go.RowKit Tide

theorem rd_le (l : List UInt8) : (rdNum l).2.2 ≤ l.length := by
  unfold rdNum
  have hh := high_le 8 l
  cases e : l[high 8 l]? with
  | none => simp
  | some b =>
    have := (List.getElem?_eq_some_iff.1 e).1
    simp only
    split <;> simp <;> omega
theorem rd_bad (l : List UInt8) (h : (rdNum l).1 ≠ 0) : (rdNum l).2.1 = 0 ∧ (rdNum l).2.2 = 0 := by
  unfold rdNum at *
  cases e : l[high 8 l]? with
  | none => simp
  | some b =>
    rw [e] at h
    simp only at h ⊢
    split
    · simp
    · rename_i hc
      rw [if_neg hc] at h
      exact absurd rfl h
/-- What Num answers. -/
abbrev NumIR (a : Nat → Addr) (W : World) (F : Nat → Prop) (B p : Nat) (l : List UInt8) (e : Nat) (most : Int) : Ending → World → Prop :=
  InR (InS a) W F B p (inNum l e most).1 (inNum l e most).2.1 fun v _ => v = .int .i64 ((inNum l e most).2.2 : Nat)

theorem inum_err (a : Nat → Addr) (W : World) (F : Nat → Prop) (B p : Nat) (l : List UInt8) (m : Nat) (most : Int) (h : InS a W F B p l (m + 1)) :
    Calls Tryd.prog 43 #[.pointer (some ⟨p, 0, none⟩), .int .i64 most] W (NumIR a W F B p l (m + 1) most) := by
  have hN := Lib.hid (show inNum l (m + 1) most = (l, m + 1, 0) from if_pos (by omega))
  have H := Lib.hid h
  obtain ⟨A, c, x, h4, h5, _⟩ := inS_form h
  obtain ⟨_, g0, g1, gf⟩ := h4.facts
  clear h h4
  rcases h5 with ⟨h0, _⟩ | ⟨m', hm, _, rfl⟩
  · omega
  · go_enter Tryd.func43, Tryd.ntmps43
    go_wp2_with fail
    go_ret
    exact ⟨_, F, rfl, by rw [hN.out]; rfl, by rw [hN.out]; exact H.out, fun k hf => .inl hf, Kept.refl _ _⟩

set_option maxHeartbeats 1000000 in
theorem inum_ok (a : Nat → Addr) (W : World) (F : Nat → Prop) (B p : Nat) (l : List UInt8) (most : Int) (h : InS a W F B p l 0) (hl : l.length ≤ 100000) (hE : Errs W a) :
    Calls Tryd.prog 43 #[.pointer (some ⟨p, 0, none⟩), .int .i64 most] W (NumIR a W F B p l 0 most) := by
  have H := Lib.hid h
  obtain ⟨A, c, x, h4, h5, h6⟩ := inS_form h
  have H4 := Lib.hid h4
  have hx : x = .nilIface := by
    rcases h5 with ⟨_, h⟩ | ⟨m, _, h0, _⟩
    · exact h
    · omega
  subst hx
  obtain ⟨_, g0, g1, gf⟩ := h4.facts
  have cN := Lib.hid (number_any a (.slice A l.length c) l W.heap.size W (h6.bytes (fun k hf => (h.2.2.1 k hf.1).2)) hl hE)
  have HE := Lib.hid hE
  by_cases hbad : (rdNum l).1 = 0
  · obtain ⟨A', c', l', hl', hcut, hbi⟩ := cutIn_l h6 (rdNum l).2.2 ((rdNum l).2.2 : Nat) rfl (rd_le l)
    have HBI := Lib.hid hbi
    have hB0 := Lib.hid hbad
    have hN := Lib.hid (show inNum l 0 most = if most < ((rdNum l).2.1 : Int) then (l', 1, 0) else (l', 0, (rdNum l).2.1) by
      unfold inNum; rw [if_neg (by simp), if_neg (by rw [hbad]; simp), hl'.out])
    have hnum := cN.out
    unfold NumberR at hnum
    have hc2 := Lib.hid hnum
    clear cN hnum hbad h4 h6 h hE hbi h5
    generalize (rdNum l).2.1 = n at *
    generalize (rdNum l).2.2 = k at *
    generalize (rdNum l).1 = er at *
    obtain rfl := hB0.out
    go_enter Tryd.func43, Tryd.ntmps43
    go_wp2_with fail
    refine hc2.out.mono ?_
    rintro e w1 ⟨x1, rfl, hx1, hb1⟩
    have hx1n : x1 = .nilIface := by
      rcases hx1 with ⟨_, h⟩ | ⟨m, _, h0, _⟩
      · exact h
      · omega
    rw [hx1n]
    have HB1 := Lib.hid hb1
    have T1 := Lib.hid (H4.out.below hb1 H4.out.lt)
    obtain ⟨_, k0, k1, kf⟩ := T1.out.facts
    have hg := (HE.out.below hb1).var 0 (by omega)
    simp only [evars, List.getD_cons_zero] at hg
    have hgp : ¬ p = 0 := fun e => (H.out.2.2.2.1 0 (by omega)).1 (by rw [show evars.getD 0 0 = 0 from rfl, ← e]; exact H.out.2.1)
    have hin := Lib.hid (inS_keep H.out (Kept.of_below (F := fun _ => False) hb1) (fun _ _ h => h))
    have hbi1 := Lib.hid (HBI.out.kept (Kept.of_below (F := fun _ => False) hb1) (fun k hf => ⟨fun h => h, (H.out.2.2.1 k hf.1).2⟩))
    clear hx1 hb1 hx1n x1 g0 g1 gf
    by_cases hmost : most < (n : Int)
    · have hq : decide (most < (n : Int)) = true := by simp; omega
      rw [if_pos hmost] at hN
      go_wp2_with fail
      go_ret
      obtain ⟨hi, hf, hk⟩ := inS_put hin.out (w2 := (w1.setCell ⟨p, 0, none⟩ (.slice A' l'.length c')).setCell ⟨p, 1, none⟩ (errAt (a 0))) (e' := 1) (((Kept.refl (fun k => k = p) w1).setCell (p := ⟨p, 0, none⟩) (.inl rfl) _).setCell (p := ⟨p, 1, none⟩) (.inl rfl) _) ((T1.out.setA _).setB _) (isErr_at a 0 (by omega)) hbi1.out
      exact ⟨_, F, rfl, by rw [hN.out]; rfl, by rw [hN.out]; exact hi, fun k hf => .inl hf, (Kept.of_below HB1.out).trans hk (fun _ h => .inl h)⟩
    · have hq : decide (most < (n : Int)) = false := by simp; omega
      rw [if_neg hmost] at hN
      go_wp2_with fail
      go_ret
      obtain ⟨hi, hf, hk⟩ := inS_put hin.out (w2 := w1.setCell ⟨p, 0, none⟩ (.slice A' l'.length c')) (e' := 0) ((Kept.refl (fun k => k = p) w1).setCell (p := ⟨p, 0, none⟩) (.inl rfl) _) (T1.out.setA _) (isErr_nil a) hbi1.out
      exact ⟨_, F, rfl, by rw [hN.out]; rfl, by rw [hN.out]; exact hi, fun k hf => .inl hf, (Kept.of_below HB1.out).trans hk (fun _ h => .inl h)⟩
  · have hN := Lib.hid (show inNum l 0 most = (l, (rdNum l).1, 0) by unfold inNum; rw [if_neg (by simp), if_pos hbad])
    have H6 := Lib.hid h6
    have hnum := cN.out
    unfold NumberR at hnum
    have hc2 := Lib.hid hnum
    clear cN hnum h4 h6 h hE h5
    generalize (rdNum l).2.1 = n at *
    generalize (rdNum l).2.2 = k at *
    generalize (rdNum l).1 = er at *
    go_enter Tryd.func43, Tryd.ntmps43
    go_wp2_with fail
    refine hc2.out.mono ?_
    rintro e w1 ⟨x1, rfl, hx1, hb1⟩
    obtain ⟨m, hm, hem, hx1n⟩ : ∃ m, m < 19 ∧ er = m + 1 ∧ x1 = errAt (a m) := by
      rcases hx1 with ⟨h0, _⟩ | h
      · exact absurd h0 hbad
      · exact h
    rw [hx1n]
    have HB1 := Lib.hid hb1
    have T1 := Lib.hid (H4.out.below hb1 H4.out.lt)
    obtain ⟨_, k0, k1, kf⟩ := T1.out.facts
    have hin := Lib.hid (inS_keep H.out (Kept.of_below (F := fun _ => False) hb1) (fun _ _ h => h))
    have hbi1 := Lib.hid (H6.out.kept (Kept.of_below (F := fun _ => False) hb1) (fun k hf => ⟨fun h => h, (H.out.2.2.1 k hf.1).2⟩))
    have HEM := Lib.hid hem
    clear hx1 hb1 hx1n x1 g0 g1 gf hem hbad
    go_wp2_with fail
    go_ret
    obtain ⟨hi, hf, hk⟩ := inS_put hin.out (w2 := w1.setCell ⟨p, 1, none⟩ (errAt (a m))) (e' := er) ((Kept.refl (fun k => k = p) w1).setCell (p := ⟨p, 1, none⟩) (.inl rfl) _) (T1.out.setB _) (by rw [HEM.out]; exact isErr_at a m hm) hbi1.out
    exact ⟨_, F, rfl, by rw [hN.out]; rfl, by rw [hN.out]; exact hi, fun k hf => .inl hf, (Kept.of_below HB1.out).trans hk (fun _ h => .inl h)⟩
/-- Num, whatever there is. -/
theorem inum_any (a : Nat → Addr) (W : World) (F : Nat → Prop) (B p : Nat) (l : List UInt8) (e : Nat) (most : Int) (h : InS a W F B p l e) (hl : l.length ≤ 100000) (hE : Errs W a) :
    Calls Tryd.prog 43 #[.pointer (some ⟨p, 0, none⟩), .int .i64 most] W (NumIR a W F B p l e most) := by
  rcases e with _ | m
  · exact inum_ok a W F B p l most h hl hE
  · exact inum_err a W F B p l m most h
end Go.Proofs.YtefcbofjndnpkaaDoor

/- A read behind a read; what numbers that are read are. -/
namespace Go.Proofs.YtefcbofjndnpkaaDoor
open Go.RowKit Tide

/-- A read behind a read. -/
theorem inR_trans {I : InP} {W w1 w2 : World} {F F1 : Nat → Prop} {B p er : Nat} {rest : List UInt8} {ans : Value → World → Prop} {e : Ending} (hF1 : ∀ k, F1 k → F k ∨ W.heap.size ≤ k) (hK1 : Kept F W w1) (h : InR I w1 F1 B p rest er ans e w2) : InR I W F B p rest er ans e w2 := by
  obtain ⟨v, F2, he, ha, hO, hF2, hK2⟩ := h
  refine ⟨v, F2, he, ha, hO, fun k hf => ?_, hK1.trans hK2 hF1⟩
  rcases hF2 k hf with h | h
  · exact hF1 k h
  · exact .inr (Nat.le_trans hK1.size h)
theorem inNum_len (l : List UInt8) (e : Nat) (most : Int) : (inNum l e most).1.length ≤ l.length := by
  unfold inNum
  split
  · exact Nat.le_refl _
  · split
    · exact Nat.le_refl _
    · split <;> simp
theorem inNum_zero (l : List UInt8) (e : Nat) (most : Int) (h : (inNum l e most).2.1 ≠ 0) : (inNum l e most).2.2 = 0 := by
  unfold inNum at *
  split
  · rfl
  · rename_i h1
    split
    · rfl
    · rename_i h2
      rw [if_neg h1, if_neg h2] at h
      split
      · rfl
      · rename_i h3
        rw [if_neg h3] at h
        exact absurd rfl h
theorem inNum_most (l : List UInt8) (e : Nat) (most : Int) (h : (inNum l e most).2.1 = 0) : ((inNum l e most).2.2 : Int) ≤ most := by
  unfold inNum at *
  split
  · rename_i h1
    rw [if_pos h1] at h
    exact absurd h h1
  · rename_i h1
    rw [if_neg h1] at h
    split
    · rename_i h2
      rw [if_pos h2] at h
      exact absurd h h2
    · rename_i h2
      rw [if_neg h2] at h
      split
      · rename_i h3
        rw [if_pos h3] at h
        simp at h
      · rename_i h3
        show (((rdNum l).2.1 : Nat) : Int) ≤ most
        omega
end Go.Proofs.YtefcbofjndnpkaaDoor

/- What a reader's Nums answers. -/
namespace Go.Proofs.YtefcbofjndnpkaaDoor
open Go.RowKit Tide

/-- What was read, ahead of what follows. -/
def comb (g : List Nat) (s : List UInt8 × Nat × List Nat) : List UInt8 × Nat × List Nat := if s.2.1 ≠ 0 then (s.1, s.2.1, []) else (s.1, 0, g ++ s.2.2)
theorem comb_nil (k : Nat) (l : List UInt8) (most : Int) : inMany k l 0 most = comb [] (inMany k l 0 most) := by
  have h : ∀ (k : Nat) (l : List UInt8), (inMany k l 0 most).2.1 ≠ 0 → (inMany k l 0 most).2.2 = [] := by
    intro k l hne
    cases k with
    | zero => exact absurd rfl hne
    | succ k =>
      unfold inMany at *
      simp only at *
      split
      · rfl
      · rename_i h1
        rw [if_neg h1] at hne
        split
        · rfl
        · rename_i h2
          rw [if_neg h2] at hne
          exact absurd rfl hne
  have h' := h k l
  generalize inMany k l 0 most = s at *
  obtain ⟨x, y, z⟩ := s
  simp only at h'
  unfold comb
  by_cases hy : y = 0
  · subst hy
    rw [if_neg (by simp)]
    rfl
  · rw [if_pos hy, h' hy]
theorem comb_step (g : List Nat) (j : Nat) (l : List UInt8) (most : Int) (h : (inNum l 0 most).2.1 = 0) : comb g (inMany (j + 1) l 0 most) = comb (g ++ [(inNum l 0 most).2.2]) (inMany j (inNum l 0 most).1 0 most) := by
  rw [show inMany (j + 1) l 0 most = if (inNum l 0 most).2.1 ≠ 0 then ((inNum l 0 most).1, (inNum l 0 most).2.1, []) else if (inMany j (inNum l 0 most).1 0 most).2.1 ≠ 0 then ((inMany j (inNum l 0 most).1 0 most).1, (inMany j (inNum l 0 most).1 0 most).2.1, []) else ((inMany j (inNum l 0 most).1 0 most).1, 0, (inNum l 0 most).2.2 :: (inMany j (inNum l 0 most).1 0 most).2.2) from rfl]
  rw [if_neg (by simpa using h)]
  unfold comb
  by_cases h2 : (inMany j (inNum l 0 most).1 0 most).2.1 ≠ 0
  · rw [if_pos h2, if_pos h2, if_pos h2]
  · rw [if_neg h2, if_neg h2, if_neg (by simp)]
    simp
theorem comb_bad (g : List Nat) (j : Nat) (l : List UInt8) (most : Int) (h : (inNum l 0 most).2.1 ≠ 0) : comb g (inMany (j + 1) l 0 most) = ((inNum l 0 most).1, (inNum l 0 most).2.1, []) := by
  rw [show inMany (j + 1) l 0 most = if (inNum l 0 most).2.1 ≠ 0 then ((inNum l 0 most).1, (inNum l 0 most).2.1, []) else if (inMany j (inNum l 0 most).1 0 most).2.1 ≠ 0 then ((inMany j (inNum l 0 most).1 0 most).1, (inMany j (inNum l 0 most).1 0 most).2.1, []) else ((inMany j (inNum l 0 most).1 0 most).1, 0, (inNum l 0 most).2.2 :: (inMany j (inNum l 0 most).1 0 most).2.2) from rfl]
  rw [if_pos h]
  unfold comb
  rw [if_pos h]
/-- Numbers as cells. -/
def pnatv (g : List Nat) : List Value := int64s (g.map Int.ofNat)
theorem pnatv_length (g : List Nat) : (pnatv g).length = g.length := by simp [pnatv, int64s]
theorem pnatv_snoc (g : List Nat) (n : Nat) : pnatv g ++ [Value.int .i64 (n : Nat)] = pnatv (g ++ [n]) := by simp [pnatv, int64s]
theorem infoI2 : (Tryd.prog.info? 3).map (fun i => (i.zero, i.size, i.bytes)) = some (some (.int .i64 0), 1, 8) := by kernel_rfl
/-- A reader, and a list of the call's own. -/
structure NS (a : Nat → Addr) (W : World) (F : Nat → Prop) (B p : Nat) (l : List UInt8) (g : List Nat) (u : Value) (F1 : Nat → Prop) (wr : World) : Prop where
  inn : InS a wr F1 B p l 0
  sub : ∀ k, F1 k → F k ∨ W.heap.size ≤ k
  kept : Kept F W wr
  own : wr.ownsRow W.heap.size 3 1 u g.length (pnatv g)
  apart : ∀ k, u.ownBlock = some k → ¬ F1 k
  len : l.length ≤ 100000

/-- Behind a list read: a row of the call's own, apart from what the reader has. -/
def InRN (a : Nat → Addr) (W : World) (F : Nat → Prop) (B p : Nat) (rest : List UInt8) (er : Nat) (zs : List Int) (e : Ending) (w' : World) : Prop :=
  ∃ v F', e = .returned v ∧ w'.ownsRow W.heap.size 3 1 v zs.length (int64s zs) ∧ (∀ k, v.ownBlock = some k → ¬ F' k) ∧ InS a w' F' B p rest er ∧ (∀ k, F' k → F k ∨ W.heap.size ≤ k) ∧ Kept F W w'

set_option maxRecDepth 100000 in
set_option maxHeartbeats 2000000 in
theorem inums_own (a : Nat → Addr) (W : World) (F : Nat → Prop) (B p : Nat) (l : List UInt8) (e : Nat) (many most : Int) (h : InS a W F B p l e) (hl : l.length ≤ 100000) (hmany : many ≤ 1000) (hE : Errs W a) :
    Calls Tryd.prog 44 #[.pointer (some ⟨p, 0, none⟩), .int .i64 many, .int .i64 most] W
      (InRN a W F B p (inNums l e many most).1 (inNums l e many most).2.1 ((inNums l e many most).2.2.map Int.ofNat)) := by
  obtain ⟨i0, hi, hz0, hz1, hz2⟩ := info_parts infoI2
  have HI := Lib.hid hi
  have HE := Lib.hid hE
  have H := Lib.hid h
  have hn := inum_any a W F B p l e many h hl hE
  unfold NumIR at hn
  have hz := inNum_zero l e many
  have hmo := inNum_most l e many
  have hln := Nat.le_trans (inNum_len l e many) hl
  obtain ⟨r, hr⟩ : ∃ r, inNum l e many = r := ⟨_, rfl⟩
  have hT : inNums l e many most = if r.2.1 ≠ 0 then (r.1, r.2.1, []) else inMany r.2.2 r.1 0 most := by
    unfold inNums
    rw [hr]
  rw [hr] at hn hz hln hmo
  obtain ⟨l1, e1, n⟩ := r
  simp only at hn hz hln hT hmo
  have CN := Lib.hid hn
  have HT0 := Lib.hid hT
  clear hi hE h hl hn hr hT
  go_enter Tryd.func44, Tryd.ntmps44
  go_wp2_with fail
  refine CN.out.mono ?_
  rintro en w1 ⟨v, F1, rfl, rfl, hI1, hF1, hK1⟩
  have HI1 := Lib.hid hI1
  have HF1 := Lib.hid hF1
  have HK1 := Lib.hid hK1
  clear hI1 hF1 hK1
  by_cases he : e1 = 0
  · have hn1000 : n ≤ 1000 := by have := hmo he; omega
    have hT := HT0.out
    rw [if_neg (by simpa using he)] at hT
    have HT := Lib.hid hT
    have S1 := Lib.hid (show ∃ F1, NS a W F B p l1 [] (.slice none 0 0) F1 w1 from ⟨F1, he ▸ HI1.out, HF1.out, HK1.out, ⟨rfl, .inl ⟨rfl, rfl⟩⟩, fun k hk => by simp [Value.ownBlock] at hk, hln⟩)
    clear hz hmo hT he hln
    go_wp2_with fail
    go_loopw [7, 12] (fun u i wr => ∃ (k : Nat) (rk : List UInt8) (g : List Nat), i = .int .i64 k ∧ k ≤ n ∧ Hid (g.length = k ∧ ∀ j, inMany (k + j) l1 0 most = comb g (inMany j rk 0 most)) ∧ Hid (∃ F1, NS a W F B p rk g u F1 wr)) (fun _ i _ => n - (intOf i).toNat)
    case atStart => exact ⟨0, l1, [], rfl, Nat.zero_le _, Lib.hid ⟨rfl, fun j => by rw [Nat.zero_add]; exact comb_nil j l1 most⟩, S1⟩
    case round =>
      obtain ⟨k, rk, g, rfl, hk, hg, hS⟩ := hrel
      obtain ⟨F2, hns⟩ := hS.out
      have HNS := Lib.hid hns
      by_cases hlt : k < n
      · have hn2 := inum_any a _ F2 B p rk 0 most hns.inn hns.len (HE.out.kept hns.kept H.out.2.2.2.1)
        unfold NumIR at hn2
        have hst := comb_step g (n - (k + 1)) rk most
        have hst' := fun j => comb_step g j rk most
        have hbd := comb_bad g (n - (k + 1)) rk most
        have hz2' := inNum_zero rk 0 most
        have hln2 := Nat.le_trans (inNum_len rk 0 most) hns.len
        obtain ⟨r2, hr2⟩ : ∃ r2, inNum rk 0 most = r2 := ⟨_, rfl⟩
        rw [hr2] at hn2 hst hbd hz2' hln2
        simp only [hr2] at hst'
        obtain ⟨l2, e2, m⟩ := r2
        simp only at hn2 hst hbd hz2' hln2 hst'
        have CN2 := Lib.hid hn2
        have HST := Lib.hid hst'
        have HBD := Lib.hid hbd
        clear hst hst' hbd hn2 hns hS hr2 hz2'
        go_wp2_with fail
        refine CN2.out.mono ?_
        rintro en w3 ⟨v3, F3, rfl, rfl, hI3, hF3, hK3⟩
        have HI3 := Lib.hid hI3
        have HF3 := Lib.hid hF3
        have HK3 := Lib.hid hK3
        obtain ⟨A, c, x, h4, h5, _⟩ := inS_form hI3
        have H5 := Lib.hid h5
        obtain ⟨_, g0, g1, gf⟩ := h4.facts
        have hx : (∃ b, x = errAt b) ∨ x = .nilIface := by
          rcases h5 with ⟨_, h⟩ | ⟨m, _, _, h⟩
          · exact .inr h
          · exact .inl ⟨_, h⟩
        have HOwn := Lib.hid (HNS.out.own)
        have HO3 := Lib.hid (hK3.own HNS.out.own HNS.out.apart)
        have HAP3 := Lib.hid (show ∀ k, u7.ownBlock = some k → ¬ F3 k from fun k hk hf => (hF3 k hf).elim (HNS.out.apart k hk) (fun hw => by have := (HNS.out.own.lt k hk).2; omega))
        have HSUB := Lib.hid (show ∀ k, F3 k → F k ∨ W.heap.size ≤ k from fun k hf => (hF3 k hf).elim (HNS.out.sub k) (fun hw => .inr (Nat.le_trans HNS.out.kept.size hw)))
        have HKW := Lib.hid (HNS.out.kept.trans hK3 HNS.out.sub)
        clear hI3 hF3 hK3 h4 h5
        rcases hx with ⟨b, rfl⟩ | rfl
        · have he2 : e2 ≠ 0 := by
            rcases H5.out with ⟨_, h⟩ | ⟨m, _, h0, _⟩
            · cases h
            · omega
          have hfin := Lib.hid (show inMany n l1 0 most = (l2, e2, []) by
            have h1 := hg.out.2 (n - k)
            rw [show k + (n - k) = n by omega] at h1
            have h2 := HBD.out he2
            rw [show n - (k + 1) + 1 = n - k by omega] at h2
            rw [h1, h2])
          clear he2 hlt
          go_wp2_with fail
          go_ret
          exact ⟨_, F3, rfl, by rw [HT.out, hfin.out]; exact ⟨by simp [int64s], .inl ⟨rfl, rfl⟩⟩, (fun k hk => by simp [Value.ownBlock] at hk), by rw [HT.out, hfin.out]; exact HI3.out, HSUB.out, HKW.out⟩
        · have he2 : e2 = 0 := by
            rcases H5.out with ⟨h, _⟩ | ⟨m, _, _, h⟩
            · exact h
            · cases h
          have hpre := Lib.hid (show (g ++ [m]).length = k + 1 ∧ ∀ j, inMany (k + 1 + j) l1 0 most = comb (g ++ [m]) (inMany j l2 0 most) from
            ⟨by rw [List.length_append, hg.out.1]; rfl, fun j => by rw [show k + 1 + j = k + (j + 1) by omega, hg.out.2 (j + 1), HST.out j he2]⟩)
          have hgl := hg.out.1
          have hi3 := Lib.hid (show InS a w3 F3 B p l2 0 from he2 ▸ HI3.out)
          have HLN := Lib.hid hln2
          clear he2 HBD hln2
          go_wp2_with (at_builtin; refine wpList_append_row _ rfl (.tmp 22) (.tmp 24) _ rfl W.heap.size 3 i0 (.int .i64 0) 8 Tryd.underlying34 HI.out hz0 hz1 hz2 rfl _ g.length (pnatv g) rfl (own_below HO3.out ((Below.refl _ _).alloc (Nat.le_refl _) _)) (w3.heap.size + 1) _ [.int .i64 (m : Nat)] rfl (Row.new w3 _ #[.int .i64 (m : Nat)] (0, 0) w3.heap.size 1 rfl rfl (by omega)) ?d0 ?d1 ?d2 ?d3 ?_)
          case d0 => simp [Value.oneCell']
          case d1 => simp [maxLen]; omega
          case d2 => simp; omega
          case d3 => have := HKW.out.size; simp; omega
          intro v9 w9 h1 h2 h3
          have hk9 : Kept (fun k => u7.ownBlock = some k) w3 w9 := Kept.grown ((Kept.refl (fun k => u7.ownBlock = some k) w3).alloc _) h2 (fun k hk => .inl hk)
          have S9 := Lib.hid (show ∃ F1, NS a W F B p l2 (g ++ [m]) v9 F1 w9 from ⟨F3, inS_keep hi3.out hk9 (fun k hf hk => HAP3.out k hk hf), HSUB.out, HKW.out.trans hk9 (fun k hk => .inr (HO3.out.lt k hk).1), by
            rw [pnatv_snoc] at h1
            rw [hpre.out.1]
            exact h1, fun k hk hf => by
            rcases h3 with h3 | h3
            · exact HAP3.out k (h3 ▸ hk) hf
            · rw [h3] at hk
              injection hk with hk
              have := (hi3.out.2.2.1 k hf).2
              omega, HLN.out⟩)
          clear h1 h2 h3 hk9
          go_wp2_with fail
          go_roundw
          case rel => exact ⟨k + 1, l2, g ++ [m], by go_num, by omega, hpre, S9⟩
          case measure => simp [intOf]; omega
      · have hkn : k = n := by omega
        have hfin := Lib.hid (show inMany n l1 0 most = (rk, 0, g) by
          have h1 := hg.out.2 0
          rw [hkn, Nat.add_zero] at h1
          rw [h1]
          unfold comb
          rw [if_neg (by simp [inMany])]
          simp [inMany])
        clear hkn hns hS
        go_wp2_with fail
        go_ret
        exact ⟨_, F2, rfl, by rw [HT.out, hfin.out]; exact (by have h9 := HNS.out.own; unfold pnatv at h9; rw [List.length_map]; exact h9), HNS.out.apart, by rw [HT.out, hfin.out]; exact HNS.out.inn, HNS.out.sub, HNS.out.kept⟩
  · have hn0 : n = 0 := hz he
    subst hn0
    have hT := HT0.out
    rw [if_pos he] at hT
    have HT := Lib.hid hT
    clear hT hmo hz he
    go_wp2_with fail
    refine wp_loop_rounds 1 ?_
    rw [rounds_succ]
    go_wp2_with fail
    go_ret
    exact ⟨_, F1, rfl, by rw [HT.out]; exact ⟨by simp [int64s], .inl ⟨rfl, rfl⟩⟩, (fun k hk => by simp [Value.ownBlock] at hk), by rw [HT.out]; exact HI1.out, HF1.out, HK1.out⟩
theorem inums_any (a : Nat → Addr) (W : World) (F : Nat → Prop) (B p : Nat) (l : List UInt8) (e : Nat) (many most : Int) (h : InS a W F B p l e) (hl : l.length ≤ 100000) (hmany : many ≤ 1000) (hE : Errs W a) :
    Calls Tryd.prog 44 #[.pointer (some ⟨p, 0, none⟩), .int .i64 many, .int .i64 most] W
      (InR (InS a) W F B p (inNums l e many most).1 (inNums l e many most).2.1 fun v w' => Row w' w'.heap.size v (int64s ((inNums l e many most).2.2.map Int.ofNat))) :=
  (inums_own a W F B p l e many most h hl hmany hE).mono fun _ _ ⟨v, F2, he, ho, _, hI, hF, hK⟩ => ⟨v, F2, he, Row.of_own ho (Nat.le_refl _), hI, hF, hK⟩
end Go.Proofs.YtefcbofjndnpkaaDoor
