/- The law of who proposes, walked. -/
import Derived.Test.YtidgpnanbbkakaaDoorVtF
import Derived.Test.YtidgpnanbbkakaaDoorUrG
namespace Go.Proofs.YtidgpnanbbkakaaDoor
open Go Go.RowKit Tide

section
variable {w W W' : World} {pq bp ba N q n : Nat} {va vc : Value} {p : PropV} {ans accs : List AnsV}
/-- What both tell, in whatever world behind. -/
theorem BothP.tells (h : BothP w W pq bp ba N q n p ans accs va vc) (hs : ProR n ⟨#[111, 119, 110]⟩ p ans accs) (hl : ans.length ≤ 1000) (hl2 : accs.length ≤ 1000) : ∃ (ta td : ByteArray) (A D : Bool), ∀ Y, Below W.heap.size W Y →
    Calls Tryd.prog 13 #[.pointer (some ⟨pq, 0, none⟩)] Y (fun e w' => e = .returned (.tuple #[.string ta, .bool A]) ∧ Below Y.heap.size Y w') ∧
    Calls Tryd.prog 11 #[.pointer (some ⟨q, 0, none⟩)] Y (fun e w' => e = .returned (.tuple #[.string ta, .bool A]) ∧ Below Y.heap.size Y w') ∧
    Calls Tryd.prog 14 #[.pointer (some ⟨pq, 0, none⟩)] Y (fun e w' => e = .returned (.tuple #[.string td, .bool D]) ∧ Below Y.heap.size Y w') ∧
    Calls Tryd.prog 9 #[.pointer (some ⟨q, 0, none⟩)] Y (fun e w' => e = .returned (.tuple #[.string td, .bool D]) ∧ Below Y.heap.size Y w') := by
  refine ⟨if asksV p then p.text else ⟨#[]⟩, if decV p then p.text else ⟨#[]⟩, asksV p, decV p, fun Y hb => ⟨pasks_any (h.pro.below hb) h.ok, ?_, pdecided_any (h.pro.below hb) h.ok, ?_⟩⟩
  · refine (rasks_any (h.ref.below hb) hl).mono ?_
    rintro e w' ⟨tx, is, rfl, h1, rfl, rfl⟩
    rw [hs.asks, hs.text]
    exact ⟨rfl, h1⟩
  · refine (rdecided_any (h.ref.below hb) hl hl2).mono ?_
    rintro e w' ⟨tx, is, rfl, h1, rfl, rfl⟩
    refine ⟨?_, h1⟩
    rw [← hs.asks, ← hs.dec, hs.text]
    cases hd : decV p with
    | false => rfl
    | true => rw [hs.dec_asks hd]; rfl
end
/-- Behind i of what came in. -/
def StP (w : World) (pq bp ba q n i : Nat) (W : World) : Prop := ∃ p ans accs va vc, BothP w W pq bp ba i q n p ans accs va vc ∧ ProR n ⟨#[111, 119, 110]⟩ p ans accs ∧ ans.length ≤ i ∧ accs.length ≤ i
theorem StP.below {w W W' : World} {pq bp ba q n i : Nat} (h : StP w pq bp ba q n i W) (hb : Below W.heap.size W W') : StP w pq bp ba q n i W' := by
  obtain ⟨p, ans, accs, va, vc, h1, h2⟩ := h
  exact ⟨p, ans, accs, va, vc, h1.below hb, h2⟩
theorem StP.tells {w W : World} {pq bp ba q n i : Nat} (h : StP w pq bp ba q n i W) (hi : i ≤ 1000) : ∃ (ta td : ByteArray) (A D : Bool), ∀ Y, Below W.heap.size W Y →
    Calls Tryd.prog 13 #[.pointer (some ⟨pq, 0, none⟩)] Y (fun e w' => e = .returned (.tuple #[.string ta, .bool A]) ∧ Below Y.heap.size Y w') ∧
    Calls Tryd.prog 11 #[.pointer (some ⟨q, 0, none⟩)] Y (fun e w' => e = .returned (.tuple #[.string ta, .bool A]) ∧ Below Y.heap.size Y w') ∧
    Calls Tryd.prog 14 #[.pointer (some ⟨pq, 0, none⟩)] Y (fun e w' => e = .returned (.tuple #[.string td, .bool D]) ∧ Below Y.heap.size Y w') ∧
    Calls Tryd.prog 9 #[.pointer (some ⟨q, 0, none⟩)] Y (fun e w' => e = .returned (.tuple #[.string td, .bool D]) ∧ Below Y.heap.size Y w') := by
  obtain ⟨p, ans, accs, va, vc, h1, h2, h3, h4⟩ := h
  exact h1.tells h2 (by omega) (by omega)
set_option maxRecDepth 100000 in
set_option maxHeartbeats 8000000 in
theorem voteProposes_law (w : World) (a : Nat → Addr) (hE : Errs w a) (vv bb : Int) (v : Value) (ks : List HearV) (hk : HearsV w w.heap.size v ks) : Calls Tryd.prog 3 #[.int .i64 vv, .int .i64 bb, v] w fun en w' => en = .returned (.bool true) ∧ Below w.heap.size w w' := by
  have CA := Lib.hid (valive_any w)
  have HFit := Lib.hid hk.2
  obtain ⟨Av, cv, rfl, _, hcell⟩ := hk.form
  have HC := Lib.hid hcell
  have HE := Lib.hid (fun Y (hb : Below w.heap.size w Y) => hE.below hb)
  clear hk hcell hE
  by_cases h1 : 40 < ks.length
  · have q1 : decide ((40 : Int) < (ks.length : Int)) = true := decide_eq_true (by omega)
    clear h1
    go_enter Tryd.func3, Tryd.ntmps3
    go_wp2_with fail
    refine CA.out.mono ?_
    rintro en w1 ⟨rfl, hb⟩
    have HB := Lib.hid hb
    clear hb
    go_wp2_with fail
    go_ret
    exact ⟨rfl, HB.out⟩
  obtain ⟨L, hL⟩ : ∃ L, ks.length = L := ⟨_, rfl⟩
  rw [hL] at h1 ⊢
  have HL := Lib.hid hL
  have q1 : decide ((40 : Int) < (L : Int)) = false := decide_eq_false (by omega)
  have hL40 : L ≤ 40 := by omega
  clear h1 hL
  by_cases hv : vv < 1 ∨ 5 < vv
  · have CN := Lib.hid (fun Y (hb : Below w.heap.size w Y) => vnew_range (HE.out Y hb) vv 7 bb hv ⟨#[111, 119, 110]⟩)
    cases q2 : decide (vv < 1)
    focus
      have q3 : decide (5 < vv) = true := by simp at q2 ⊢; omega
      clear hv
      go_enter Tryd.func3, Tryd.ntmps3
      go_wp2_with fail
    rotate_left
    focus
      clear hv
      go_enter Tryd.func3, Tryd.ntmps3
      go_wp2_with fail
    all_goals
      refine CA.out.mono ?_
      rintro en w1 ⟨rfl, hb⟩
      have CN1 := Lib.hid (CN.out w1 hb)
      have HB1 := Lib.hid hb
      clear hb CN CA
      go_wp2_with fail
      refine CN1.out.mono ?_
      rintro en w2 ⟨rfl, hb⟩
      have HB2 := Lib.hid (HB1.out.trans (hb.mono HB1.out.size))
      have CM := Lib.hid (num_any a (errAt (a 0)) 1 w2 (HE.out w2 HB2.out) (isErr_at a 0 (by omega)))
      clear hb CN1 HB1
      go_wp2_with fail
      refine CM.out.mono ?_
      rintro en w3 ⟨rfl, hb⟩
      have HB3 := Lib.hid (HB2.out.trans (hb.mono HB2.out.size))
      clear hb CM HB2
      go_wp2_with fail
      go_ret
      exact ⟨rfl, HB3.out⟩
  have q2 : decide (vv < 1) = false := decide_eq_false (by omega)
  have q3 : decide (5 < vv) = false := decide_eq_false (by omega)
  by_cases hb0 : bb < 0
  · have q4 : decide (bb < 0) = true := decide_eq_true hb0
    have CN := Lib.hid (fun Y (hb : Below w.heap.size w Y) => vnew_form (HE.out Y hb) vv 7 bb (by omega) (by omega) hb0 ⟨#[111, 119, 110]⟩)
    clear hv hb0
    go_enter Tryd.func3, Tryd.ntmps3
    go_wp2_with fail
    refine CA.out.mono ?_
    rintro en w1 ⟨rfl, hb⟩
    have CN1 := Lib.hid (CN.out w1 hb)
    have HB1 := Lib.hid hb
    clear hb CN CA
    go_wp2_with fail
    refine CN1.out.mono ?_
    rintro en w2 ⟨rfl, hb⟩
    have HB2 := Lib.hid (HB1.out.trans (hb.mono HB1.out.size))
    have CM := Lib.hid (num_any a (errAt (a 3)) 4 w2 (HE.out w2 HB2.out) (isErr_at a 3 (by omega)))
    clear hb CN1 HB1
    go_wp2_with fail
    refine CM.out.mono ?_
    rintro en w3 ⟨rfl, hb⟩
    have HB3 := Lib.hid (HB2.out.trans (hb.mono HB2.out.size))
    clear hb CM HB2
    go_wp2_with fail
    go_ret
    exact ⟨rfl, HB3.out⟩
  have q4 : decide (bb < 0) = false := decide_eq_false hb0
  obtain ⟨n, rfl⟩ : ∃ n : Nat, vv = (n : Int) := ⟨vv.toNat, by omega⟩
  have CN := Lib.hid (fun Y => vnew_any Y n (by omega) (by omega) 7 bb (by omega) ⟨#[111, 119, 110]⟩)
  have HN := Lib.hid (show 1 ≤ n ∧ n ≤ 5 by omega)
  clear hv hb0
  go_enter Tryd.func3, Tryd.ntmps3
  go_wp2_with fail
  refine CA.out.mono ?_
  rintro en w1 ⟨rfl, hb⟩
  have HB1 := Lib.hid hb
  clear hb CA
  go_wp2_with fail
  refine (CN.out w1).mono ?_
  rintro en w2 ⟨pq, bp, ba, rfl, hp, hb, hf⟩
  have HB2 := Lib.hid (HB1.out.trans (hb.mono HB1.out.size))
  have HP0 := Lib.hid (And.intro hp (fun k hk => Nat.le_trans HB1.out.size (hf k hk)))
  clear hb hp hf CN HB1
  have S0 := Lib.hid (show StP w pq bp ba w2.heap.size n 0 (w2.alloc (.cells #[.int .i64 (n : Int), .string ⟨#[111, 119, 110]⟩, .slice none 0 0, .slice none 0 0] 33)) from ⟨_, _, _, _, _, BothP.start HB2.out HP0.out.1 HN.out.2 HP0.out.2, ProR.new n _, Nat.le_refl _, Nat.le_refl _⟩)
  obtain ⟨q, hq⟩ : ∃ q, w2.heap.size = q := ⟨_, rfl⟩
  rw [hq] at S0
  clear HB2 HP0
  go_wp2_with fail
  clear hq
  go_loopw [68] (fun t wr => ∃ i : Nat, t = .int .i64 (i : Int) ∧ i ≤ L ∧ Hid (StP w pq bp ba q n i wr)) (fun t _ => L - (intOf t).toNat)
  case atStart => exact ⟨0, rfl, Nat.zero_le _, S0⟩
  case round =>
    clear S0
    obtain ⟨i, rfl, hi, hS⟩ := hrel
    by_cases hlt : i < L
    rotate_left
    focus
      have q5 : decide ((i : Int) < (L : Int)) = false := decide_eq_false (by omega)
      have HB := Lib.hid (by obtain ⟨_, _, _, _, _, h, _⟩ := hS.out; exact h.since)
      clear hS
      go_wp2_with fail
      go_ret
      exact ⟨rfl, HB.out⟩
    have q5 : decide ((i : Int) < (L : Int)) = true := decide_eq_true (by omega)
    obtain ⟨p, ans, accs, va, vc, hP, hR, hla, hlc⟩ := hS.out
    obtain ⟨b, o, rfl, hbl, c0, c1, c2, c3, c4, c5⟩ := HC.out i (by rw [HL.out]; exact hlt)
    have hft := HFit.out (ks[i]'(by rw [HL.out]; exact hlt)) (List.getElem_mem _)
    obtain ⟨x, hx⟩ : ∃ x : HearV, x = ks[i]'(by rw [HL.out]; exact hlt) := ⟨_, rfl⟩
    rw [← hx] at c0 c1 c2 c3 c4 c5 hft
    have hc := below_cells hP.since
    have d0 := (hc _ _ hbl).trans c0
    have d1 := (hc _ _ hbl).trans c1
    have d2 := (hc _ _ hbl).trans c2
    have d3 := (hc _ _ hbl).trans c3
    have d4 := (hc _ _ hbl).trans c4
    have d5 := (hc _ _ hbl).trans c5
    obtain ⟨⟨fr, ys, bt, tx⟩, acs, tk⟩ := x
    simp only at d0 d1 d2 d3 d4 d5 hft
    have hb1 := (Below.refl wr.heap.size wr).alloc (Nat.le_refl _) (.cells #[.int .i64 fr, .bool ys, .int .i64 bt, .string tx, .bool acs, .bool tk] 37)
    have P1 := Lib.hid (hP.below hb1)
    have HX1 := Lib.hid (heap_alloc_new wr (.cells #[.int .i64 fr, .bool ys, .int .i64 bt, .string tx, .bool acs, .bool tk] 37))
    have HR := Lib.hid hR
    have HFt := Lib.hid hft
    have HLe := Lib.hid (show ans.length ≤ 40 ∧ accs.length ≤ 40 ∧ ans.length ≤ i ∧ accs.length ≤ i by omega)
    clear hx c0 c1 c2 c3 c4 c5 hc hS hP hR hft hb1 hla hlc HC
    by_cases ht : (300 : Int) < (tx.size : Int)
    focus
      have q6 : decide ((300 : Int) < (tx.size : Int)) = true := decide_eq_true ht
      have q7 : decide (300 < tx.size) = true := decide_eq_true (by omega)
      have HB := Lib.hid P1.out.since
      clear ht P1
      go_wp2_with fail
      go_ret
      exact ⟨rfl, HB.out⟩
    have q6 : decide ((300 : Int) < (tx.size : Int)) = false := decide_eq_false ht
    have q7 : decide (300 < tx.size) = false := decide_eq_false (by omega)
    clear ht
    have HZ1 := Lib.hid (P1.out.since.size)
    obtain ⟨W1, hW1⟩ : ∃ W1, wr.alloc (.cells #[.int .i64 fr, .bool ys, .int .i64 bt, .string tx, .bool acs, .bool tk] 37) = W1 := ⟨_, rfl⟩
    rw [hW1] at P1 HX1 HZ1
    obtain ⟨r, hr⟩ : ∃ r, wr.heap.size = r := ⟨_, rfl⟩
    rw [hr] at HX1
    obtain ⟨hrl, x0, x1, x2, x3, x4, x5⟩ := box6 HX1.out
    cases acs
    rotate_left
    focus
      obtain ⟨ac, hac⟩ : ∃ ac, (if decide (n < 2 * (asksOf n ⟨#[111, 119, 110]⟩ (firstsV n ans)).cnt) = true then accs ++ [⟨fr, tk, 0, ⟨#[]⟩⟩] else accs) = ac := ⟨_, rfl⟩
      have HRn := Lib.hid (show ProR n ⟨#[111, 119, 110]⟩ (accpV p fr tk) ans ac from by
        have := HR.out.accepted fr tk
        rw [HR.out.asks, hac] at this
        exact this)
      have HLn := Lib.hid (show ac.length ≤ accs.length + 1 from by rw [← hac]; split <;> simp)
      have CRA := Lib.hid (raccepted_any P1.out.ref (by have := HLe.out; omega) (by have := HLe.out; omega) HZ1.out fr tk)
      rw [hac] at CRA
      clear hac
      go_wp2_with fail
      refine CRA.out.mono ?_
      rintro en w3 ⟨rfl, vc3, hr3, hk3⟩
      have hX3 := hk3.heap HX1.out (fun e => by
        rcases e with e | e
        · have h1 := P1.out.ref.cells
          rw [← e, HX1.out] at h1
          injection h1 with h1
          injection h1 with _ h1
          cases h1
        · obtain ⟨_, _, cur, hc⟩ := P1.out.ref.accs.block e
          rw [HX1.out] at hc
          injection hc with hc
          injection hc with _ hc
          cases hc)
      have P3 := Lib.hid (P1.out.refStep hr3 hk3 (fun k e => e.elim .inl (fun e => .inr (.inr e))))
      have CRD := Lib.hid (rdecided_any P3.out.ref (by have := HLe.out; omega) (by have := HLe.out; have := HLn.out; omega))
      clear hr3 hk3 CRA hrl x0 x1 x2 x3 x4 x5
      go_wp2_with fail
      refine CRD.out.mono ?_
      rintro en w4 ⟨t4, z4, rfl, hb4, hz4, ht4⟩
      clear ht4
      have HZ := Lib.hid (show z4 = decV (accpV p fr tk) from by rw [hz4, HRn.out.dec])
      have P4 := Lib.hid (P3.out.below hb4)
      have hX4 := (Kept.of_below (F := fun _ => False) hb4).heap hX3 (fun h => h)
      have HX4 := Lib.hid hX4
      obtain ⟨hrl, x0, x1, x2, x3, x4, x5⟩ := box6 hX4
      have CPA := Lib.hid (paccepted_any P4.out.pro P4.out.ok (by omega) fr HFt.out tk)
      rw [← HZ.out] at CPA
      clear hb4 hz4 hX3 hX4 CRD
      go_wp2_with fail
      refine CPA.out.mono ?_
      rintro en w5 ⟨rfl, hp5⟩
      have P5 := Lib.hid (P4.out.proStep hp5 (P4.out.ok.accepted fr tk))
      have HS5 := Lib.hid (show StP w pq bp ba q n (i + 1) w5 from ⟨_, _, _, _, _, P5.out, HRn.out, by have := HLe.out; omega, by have := HLe.out; have := HLn.out; omega⟩)
      clear hp5 CPA hrl x0 x1 x2 x3 x4 x5 HX4 P4 P5 HRn HZ P3 P1 HLn
    rotate_left
    focus
      have HRn := Lib.hid (HR.out.promise ⟨fr, ys, bt, tx⟩)
      obtain ⟨hq, c0, c1, c2, c3, f0⟩ := P1.out.ref.facts
      have HA := Lib.hid P1.out.ref.ans
      obtain ⟨A1, c1v, hva⟩ := P1.out.ref.ans.form
      subst hva
      have HT0 := Lib.hid (And.intro c2 (And.intro x0 (And.intro x1 (And.intro x2 x3))))
      go_wp2_with fail
      have hT0 := HT0.out
      --BEGIN
      refine wp_region_any (by kernel_rfl) ?_
      change wpAny _ _ _ _ 22 #[false, false, false, false, false, false, false, false, false, false, false, false, false, false, false, false, false, false, false, false, false, false] _ (World.drew _)
      refine takeP 0 98 (v := ?v1) rfl rfl (by kernel_rfl) (by kernel_rfl) (by kernel_rfl) (fun _ _ _ h => h) (Or.inl ⟨by rfl, ?h1⟩) ?r1
      case h1 =>
        intro w
        go_simp
        try with_reducible rfl
      simp only [List.setIfInBounds_toArray, List.set_cons_zero, List.set_cons_succ]
      refine takeP 1 99 (v := ?v2) rfl rfl (by kernel_rfl) (by kernel_rfl) (by kernel_rfl) (fun _ _ _ h => h) (Or.inl ⟨by rfl, ?h2⟩) ?r2
      case h2 =>
        intro w
        go_simp
        try with_reducible rfl
      simp only [List.setIfInBounds_toArray, List.set_cons_zero, List.set_cons_succ]
      refine takeP 2 100 (v := ?v3) rfl rfl (by kernel_rfl) (by kernel_rfl) (by kernel_rfl) (fun _ _ _ h => h) (Or.inl ⟨by rfl, ?h3⟩) ?r3
      case h3 =>
        intro w
        go_simp
        try with_reducible rfl
      simp only [List.setIfInBounds_toArray, List.set_cons_zero, List.set_cons_succ]
      refine takeP 3 101 (v := ?v4) rfl rfl (by kernel_rfl) (by kernel_rfl) (by kernel_rfl) (fun _ _ _ h => h) (Or.inl ⟨by rfl, ?h4⟩) ?r4
      case h4 =>
        intro w
        go_simp
        try with_reducible rfl
      simp only [List.setIfInBounds_toArray, List.set_cons_zero, List.set_cons_succ]
      refine takeP 5 103 (v := ?v5) rfl rfl (by kernel_rfl) (by kernel_rfl) (by kernel_rfl) (fun _ _ _ h => h) (Or.inl ⟨by rfl, ?h5⟩) ?r5
      case h5 =>
        intro w
        go_simp
        try with_reducible rfl
      simp only [List.setIfInBounds_toArray, List.set_cons_zero, List.set_cons_succ]
      refine takeP 7 105 (v := ?v6) rfl rfl (by kernel_rfl) (by kernel_rfl) (by kernel_rfl) (fun _ _ _ h => h) (Or.inl ⟨by rfl, ?h6⟩) ?r6
      case h6 =>
        intro w
        go_simp
        try with_reducible rfl
      simp only [List.setIfInBounds_toArray, List.set_cons_zero, List.set_cons_succ]
      refine takeP 8 106 (v := ?v7) rfl rfl (by kernel_rfl) (by kernel_rfl) (by kernel_rfl) (fun _ _ _ h => h) (Or.inl ⟨by rfl, ?h7⟩) ?r7
      case h7 =>
        intro w
        go_simp
        try with_reducible rfl
      simp only [List.setIfInBounds_toArray, List.set_cons_zero, List.set_cons_succ]
      refine takeP 10 108 (v := ?v8) rfl rfl (by kernel_rfl) (by kernel_rfl) (by kernel_rfl) (fun _ _ _ h => h) (Or.inl ⟨by rfl, ?h8⟩) ?r8
      case h8 =>
        intro w
        go_simp
        try with_reducible rfl
      simp only [List.setIfInBounds_toArray, List.set_cons_zero, List.set_cons_succ]
      refine takeP 11 109 (v := ?v9) rfl rfl (by kernel_rfl) (by kernel_rfl) (by kernel_rfl) (fun _ _ _ h => h) (Or.inl ⟨by rfl, ?h9⟩) ?r9
      case h9 =>
        intro w
        go_simp
        try with_reducible rfl
      simp only [List.setIfInBounds_toArray, List.set_cons_zero, List.set_cons_succ]
      refine takeP 13 111 (v := ?v10) rfl rfl (by kernel_rfl) (by kernel_rfl) (by kernel_rfl) (fun _ _ _ h => h) (Or.inl ⟨by rfl, ?h10⟩) ?r10
      case h10 =>
        intro w
        go_simp
        try with_reducible rfl
      simp only [List.setIfInBounds_toArray, List.set_cons_zero, List.set_cons_succ]
      refine takeP 14 112 (v := ?v11) rfl rfl (by kernel_rfl) (by kernel_rfl) (by kernel_rfl) (fun _ _ _ h => h) (Or.inl ⟨by rfl, ?h11⟩) ?r11
      case h11 =>
        intro w
        go_simp
        try with_reducible rfl
      simp only [List.setIfInBounds_toArray, List.set_cons_zero, List.set_cons_succ]
      refine any_of_T (T := fun W' => W'.cell? ⟨q, 2, none⟩ = some (.slice A1 ans.length c1v) ∧ W'.cell? ⟨r, 0, none⟩ = some (.int .i64 fr) ∧ W'.cell? ⟨r, 1, none⟩ = some (.bool ys) ∧ W'.cell? ⟨r, 2, none⟩ = some (.int .i64 bt) ∧ W'.cell? ⟨r, 3, none⟩ = some (.string tx)) (st := 21) _ _ _ _ ?_
      refine takeT 4 102 (v := (.slice A1 ans.length c1v)) rfl rfl (by kernel_rfl) (by kernel_rfl) (by kernel_rfl) (by decide) (by kernel_rfl) (fun _ _ _ h => h) (Or.inl ⟨by rfl, ?h12⟩) hT0 (by kernel_rfl) ?r12
      case h12 =>
        intro w hSw
        obtain ⟨t1, t2, t3, t4, t5⟩ := hSw
        go_simp
        try with_reducible rfl
      simp only [List.setIfInBounds_toArray, List.set_cons_zero, List.set_cons_succ]
      refine takeT 6 104 (v := (.int .i64 fr)) rfl rfl (by kernel_rfl) (by kernel_rfl) (by kernel_rfl) (by decide) (by kernel_rfl) (fun _ _ _ h => h) (Or.inl ⟨by rfl, ?h13⟩) hT0 (by kernel_rfl) ?r13
      case h13 =>
        intro w hSw
        obtain ⟨t1, t2, t3, t4, t5⟩ := hSw
        go_simp
        try with_reducible rfl
      simp only [List.setIfInBounds_toArray, List.set_cons_zero, List.set_cons_succ]
      refine takeT 9 107 (v := (.bool ys)) rfl rfl (by kernel_rfl) (by kernel_rfl) (by kernel_rfl) (by decide) (by kernel_rfl) (fun _ _ _ h => h) (Or.inl ⟨by rfl, ?h14⟩) hT0 (by kernel_rfl) ?r14
      case h14 =>
        intro w hSw
        obtain ⟨t1, t2, t3, t4, t5⟩ := hSw
        go_simp
        try with_reducible rfl
      simp only [List.setIfInBounds_toArray, List.set_cons_zero, List.set_cons_succ]
      refine takeT 12 110 (v := (.int .i64 bt)) rfl rfl (by kernel_rfl) (by kernel_rfl) (by kernel_rfl) (by decide) (by kernel_rfl) (fun _ _ _ h => h) (Or.inl ⟨by rfl, ?h15⟩) hT0 (by kernel_rfl) ?r15
      case h15 =>
        intro w hSw
        obtain ⟨t1, t2, t3, t4, t5⟩ := hSw
        go_simp
        try with_reducible rfl
      simp only [List.setIfInBounds_toArray, List.set_cons_zero, List.set_cons_succ]
      refine takeT 15 113 (v := (.string tx)) rfl rfl (by kernel_rfl) (by kernel_rfl) (by kernel_rfl) (by decide) (by kernel_rfl) (fun _ _ _ h => h) (Or.inl ⟨by rfl, ?h16⟩) hT0 (by kernel_rfl) ?r16
      case h16 =>
        intro w hSw
        obtain ⟨t1, t2, t3, t4, t5⟩ := hSw
        go_simp
        try with_reducible rfl
      simp only [List.setIfInBounds_toArray, List.set_cons_zero, List.set_cons_succ]
      refine takeT 16 114 (v := .agg #[.int .i64 fr, .bool ys, .int .i64 bt, .string tx]) rfl rfl (by kernel_rfl) (by kernel_rfl) (by kernel_rfl) (by decide) (by kernel_rfl) (fun _ _ _ h => h) (Or.inl ⟨by rfl, ?h17⟩) hT0 (by kernel_rfl) ?r17
      case h17 =>
        intro w hSw
        go_simp
        try with_reducible rfl
      simp only [List.setIfInBounds_toArray, List.set_cons_zero, List.set_cons_succ]
      --END
      refine readyT (rs := [17]) (by kernel_rfl) (by simp) ?_
      refine AllT.cons rfl (fun K hK => ?_) AllT.nil
      go_simp
      have hbA := (Below.refl W1.heap.size W1).alloc (Nat.le_refl _) (.cells #[.int .i64 fr, .bool ys, .int .i64 bt, .string tx] 43)
      have hbx := heap_alloc_new W1 (.cells #[.int .i64 fr, .bool ys, .int .i64 bt, .string tx] 43)
      have hbB : Below W1.heap.size W1 (W1.alloc (.cells #[.int .i64 fr, .bool ys, .int .i64 bt, .string tx] 43)).drew := ⟨hbA.os, hbA.tape, hbA.output, hbA.size, hbA.block⟩
      obtain ⟨w3, hw3⟩ : ∃ w3, (W1.alloc (.cells #[.int .i64 fr, .bool ys, .int .i64 bt, .string tx] 43)).drew = w3 := ⟨_, rfl⟩
      have hbx3 : w3.heap[W1.heap.size]? = some (.cells #[.int .i64 fr, .bool ys, .int .i64 bt, .string tx] 43 (0, 0)) := by rw [← hw3]; exact hbx
      rw [hw3] at hbB ⊢
      have P3 := Lib.hid (P1.out.below hbB)
      have HX3 := Lib.hid ((Kept.of_below (F := fun _ => False) hbB).heap HX1.out (fun h => h))
      have HBx := Lib.hid hbx3
      obtain ⟨_, y0, y1, y2, y3, y4, y5⟩ := box6 HX3.out
      obtain ⟨_, _, _, e2, _, _⟩ := P3.out.ref.facts
      refine hK.out _ _ ⟨e2, y0, y1, y2, y3⟩ ?_
      clear hK K hbA hbx hbB hbx3 hw3 y0 y1 y2 y3 y4 y5 e2 hT0 HT0
      simp only [List.setIfInBounds_toArray, List.set_cons_zero, List.set_cons_succ]
      refine readyT (rs := [18]) (by kernel_rfl) (by simp) ?_
      refine AllT.cons rfl (fun K hK => ?_) AllT.nil
      refine step_pushA ?z1 (.tmp 102) (.tmp 115) ?z2 w.heap.size W1.heap.size (.slice A1 ans.length c1v) ans ⟨fr, ys, bt, tx⟩ ?z3 ?z4 HBx.out P3.out.ref.ans (by have := HLe.out; omega) P3.out.since.size ?_
      case z1 => exact rfl
      case z2 => exact rfl
      case z3 => exact rfl
      case z4 => exact rfl
      intro g cap w4 h1 h2 h3
      have HS4 := Lib.hid (P3.out.ref.setA h2 h1 (fun j e => by
        injection e with e
        have e : g = j := e
        subst e
        exact h3))
      have hc4 := h2.heap P3.out.ref.cells (fun e => P3.out.ref.ne P3.out.ref.ans e)
      have HX4 := Lib.hid (h2.heap HX3.out (fun e => by
        obtain ⟨_, _, cur, hc⟩ := P3.out.ref.ans.block e
        rw [HX3.out] at hc
        injection hc with hc
        injection hc with _ hc
        cases hc))
      obtain ⟨_, y0, y1, y2, y3, y4, y5⟩ := box6 HX4.out
      obtain ⟨hq4, _, _, e2, _⟩ := box4a hc4
      have hf4 : ∀ j, w4.frozen? ⟨q, j, none⟩ = false := fun j => frozen_of_row _ _ j _ _ hc4
      refine hK.out _ _ ⟨e2, y0, y1, y2, y3⟩ ?_
      clear hK K h1 h2 h3 hc4
      change anyT _ _ _ _ _ _ _ _ ⟨Array.setIfInBounds _ 116 _, _⟩ _
      simp only [List.setIfInBounds_toArray, List.set_cons_zero, List.set_cons_succ]
      refine readyT (rs := [19]) (by kernel_rfl) (by simp) ?_
      refine AllT.cons rfl (fun K hK => ?_) AllT.nil
      go_simp
      refine hK.out _ _ ⟨e2, y0, y1, y2, y3⟩ ?_
      clear hK K
      refine readyT (rs := [20]) (by kernel_rfl) (by simp) ?_
      refine AllT.cons rfl (fun K hK => ?_) AllT.nil
      go_simp
      refine hK.out _ _ ⟨e2, y0, y1, y2, y3⟩ ?_
      clear hK K
      simp only [List.setIfInBounds_toArray, List.set_cons_zero, List.set_cons_succ]
      refine storeT (by kernel_rfl) rfl (fun K hK => ?_)
      go_simp
      refine hK.out _ _ ?_
      clear hK K
      refine wpAny_done (by kernel_rfl) ?_ _
      obtain ⟨w5, hw5⟩ : ∃ w5, w4.setCell ⟨q, 2, none⟩ (.slice (some ⟨g, 0, none⟩) (ans.length + 1) cap) = w5 := ⟨_, rfl⟩
      rw [hw5] at HS4 ⊢
      have P5 := Lib.hid (P3.out.refStep HS4.out.1 HS4.out.2 (fun k e => e.elim .inl (fun e => .inr (.inl e))))
      have HX5 := Lib.hid (HS4.out.2.heap HX3.out (fun e => by
        rcases e with e | e
        · have h1 := P3.out.ref.cells
          rw [← e, HX3.out] at h1
          injection h1 with h1
          injection h1 with _ h1
          cases h1
        · obtain ⟨_, _, cur, hc⟩ := P3.out.ref.ans.block e
          rw [HX3.out] at hc
          injection hc with hc
          injection hc with _ hc
          cases hc))
      have CRK := Lib.hid (rasks_any P5.out.ref (by rw [List.length_append]; have := HLe.out; simp; omega))
      clear hw5 HS4 HX4 HX3 P3 P1 HX1 HBx y0 y1 y2 y3 y4 y5 hq4 e2 hf4 x0 x1 x2 x3 x4 x5 hrl c0 c1 c2 c3 f0 hq HA
      go_wp2_with fail
      refine CRK.out.mono ?_
      rintro en w6 ⟨t6, z6, rfl, hb6, hz6, ht6⟩
      clear ht6
      have HZ := Lib.hid (show z6 = asksV (promV p fr ys bt tx) from by rw [hz6, HRn.out.asks])
      have P6 := Lib.hid (P5.out.below hb6)
      have hX6 := (Kept.of_below (F := fun _ => False) hb6).heap HX5.out (fun h => h)
      obtain ⟨hrl, x0, x1, x2, x3, x4, x5⟩ := box6 hX6
      have CPP := Lib.hid (ppromise_any P6.out.pro P6.out.ok (by omega) fr HFt.out ys bt tx)
      rw [← HZ.out] at CPP
      clear hb6 hz6 hX6 CRK P5
      go_wp2_with fail
      refine CPP.out.mono ?_
      rintro en w7 ⟨rfl, hp7⟩
      have HS5 := Lib.hid (show StP w pq bp ba q n (i + 1) w7 from ⟨_, _, _, _, _, P6.out.proStep hp7 (P6.out.ok.promise fr ys bt tx), HRn.out, by rw [List.length_append]; have := HLe.out; simp; omega, by have := HLe.out; omega⟩)
      clear hp7 CPP P6 HZ hrl x0 x1 x2 x3 x4 x5 HX5 HRn
    all_goals
      obtain ⟨ta, td, A, D, hT⟩ := HS5.out.tells (by omega)
      have HT := Lib.hid hT
      clear hT
      go_wp2_with fail
      refine (HT.out _ (Below.refl _ _)).1.mono ?_
      rintro en y6 ⟨rfl, hb⟩
      have H6 := Lib.hid hb
      clear hb
      go_wp2_with fail
      refine (HT.out _ H6.out).2.1.mono ?_
      rintro en y7 ⟨rfl, hb⟩
      have H7 := Lib.hid (H6.out.trans (hb.mono H6.out.size))
      clear hb H6
      go_wp2_with fail
      refine (HT.out _ H7.out).2.2.1.mono ?_
      rintro en y8 ⟨rfl, hb⟩
      have H8 := Lib.hid (H7.out.trans (hb.mono H7.out.size))
      clear hb H7
      go_wp2_with fail
      refine (HT.out _ H8.out).2.2.2.mono ?_
      rintro en y9 ⟨rfl, hb⟩
      have H9 := Lib.hid (H8.out.trans (hb.mono H8.out.size))
      have HS9 := Lib.hid (HS5.out.below H9.out)
      clear hb H8 H9 HT HS5
      go_wp2_with fail
      go_roundw
      case rel => exact ⟨i + 1, by go_num, by omega, HS9⟩
      case measure => simp [intOf]; omega
end Go.Proofs.YtidgpnanbbkakaaDoor
