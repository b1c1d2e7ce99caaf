/- Package vote's Promise of who proposes. -/
import Derived.Test.YtefcbofjndnpkaaDoorGVtO
import Derived.Test.YtefcbofjndnpkaaDoorGTakeH
namespace Go.Proofs.YtefcbofjndnpkaaDoor
open Go Go.RowKit Tide

section
variable {W W' : World} {q bp ba N : Nat} {p : PropV}
/-- The told ballot and text, kept. -/
theorem ProW.better (h : ProW W q bp ba N p) (b : Int) (t : ByteArray) {w' : World} (hc : w'.heap[q]? = some (.cells #[.int .i64 (p.voters : Int), .string t, .int .i64 b, .map (some bp), .map (some ba)] 88 (0, 0))) (hk : Kept (fun j => j = q) W w') : ProB W q bp ba N ⟨p.voters, t, b, p.prom, p.acc⟩ w' :=
  ⟨⟨hc, h.prom.kept hk h.ne.1, h.acc.kept hk h.ne.2, h.two⟩, hk.mono (fun _ _ e => .inl e)⟩
theorem ProB.trans {p' : PropV} {M : Nat} {W1 : World} (h : ProB W q bp ba N p W1) (h' : ProB W1 q bp ba M p' W') : ProB W q bp ba M p' W' := ⟨h'.1, h.2.trans h'.2 (fun _ h => .inl h)⟩
theorem ProW.drewN (h : ProW W q bp ba N p) (n : Nat) : ProW (W.drewN n) q bp ba N p := ⟨h.cells, h.prom, h.acc, h.two⟩
theorem ProB.ofDrewN {n : Nat} (h : ProB (W.drewN n) q bp ba N p W') : ProB W q bp ba N p W' := ⟨h.1, h.2.os, h.2.tape, h.2.output, h.2.size, h.2.block⟩
theorem box3t {w : World} {b : Nat} {x y z : Value} {t : TypeId} (h : w.heap[b]? = some (.cells #[x, y, z] t (0, 0))) : b < w.heap.size ∧ w.cell? ⟨b, 0, none⟩ = some x ∧ w.cell? ⟨b, 1, none⟩ = some y ∧ w.cell? ⟨b, 2, none⟩ = some z := by
  have h0 : w.cell? ⟨b, 0, none⟩ = some x := by rw [cell_of_row _ _ 0 _ _ _ h]; rfl
  exact ⟨World.block_lt_of_cell? _ _ h0, h0, by rw [cell_of_row _ _ 1 _ _ _ h]; rfl, by rw [cell_of_row _ _ 2 _ _ _ h]; rfl⟩
set_option maxRecDepth 100000 in
theorem ppromise_any (h : ProW W q bp ba N p) (hk : OkPr p) (hN : N ≤ 1000000) (k : Int) (hf : fitsI k) (yes : Bool) (b : Int) (t : ByteArray) : Calls Tryd.prog 36 #[.pointer (some ⟨q, 0, none⟩), .int .i64 k, .agg #[.bool yes, .int .i64 b, .string t]] W fun e w' => e = .returned (.bool (asksV (promV p k yes b t))) ∧ ProB W q bp ba (N + 1) (promV p k yes b t) w' := by
  have hb0 := (Below.refl W.heap.size W).alloc (Nat.le_refl _) (.cells #[.bool yes, .int .i64 b, .string t] 91)
  have hx0 := heap_alloc_new W (.cells #[.bool yes, .int .i64 b, .string t] 91)
  have HB0 := Lib.hid hb0
  have HX0 := Lib.hid hx0
  have H := Lib.hid (h.below hb0)
  obtain ⟨hq, c0, c1, c2, c3, c4, f0⟩ := h.facts
  have CA := Lib.hid (awaits_any (H.out.facts).2.1 H.out.prom k hf)
  have HK := Lib.hid hk
  have HF := Lib.hid hf
  obtain ⟨A, hA⟩ : ∃ A, awaitsV p.voters p.prom k = A := ⟨_, rfl⟩
  obtain ⟨M, hM⟩ : ∃ M, mostV p.voters p.prom = M := ⟨_, rfl⟩
  rw [hA] at CA
  have HM := Lib.hid hM
  have HA := Lib.hid hA
  have HP := Lib.hid (show promV p k yes b t = if A then (if (yes && (!M && decide (p.greatest < b))) then ⟨p.voters, t, b, setV p.prom k yes, p.acc⟩ else ⟨p.voters, p.text, p.greatest, setV p.prom k yes, p.acc⟩) else p from by unfold promV betterV; rw [hM, hA])
  obtain ⟨P, hPP⟩ : ∃ P, promV p k yes b t = P := ⟨_, rfl⟩
  have HP2 := Lib.hid hPP
  have HKP := Lib.hid (show OkPr P from by rw [← hPP]; exact hk.promise k yes b t)
  rw [hPP]
  clear h hk hM hA hPP hf hb0 hx0
  cases A with
  | false =>
    have e : P = p := by rw [← HP2.out, HP.out]; rfl
    subst e
    have CN := Lib.hid (most_any (H.out.facts).2.1 H.out.prom HK.out.small HK.out.prom)
    clear c0 c1 c2 c4
    go_enter Tryd.func36, Tryd.ntmps36
    go_wp2_with fail
    refine CA.out.mono ?_
    rintro e w1 ⟨rfl, rfl⟩
    go_wp2_with fail
    refine CN.out.mono ?_
    rintro e w1 ⟨rfl, hb⟩
    have HE := Lib.hid (ProB.late HB0.out (H.out.stay hb))
    clear hb c3 CN CA
    go_wp2_with fail
    go_ret
    exact ⟨rfl, HE.out⟩
  | true =>
    obtain ⟨W1, hW1⟩ : ∃ W1, W.alloc (.cells #[.bool yes, .int .i64 b, .string t] 91) = W1 := ⟨_, rfl⟩
    rw [hW1] at HB0 HX0 H CA
    obtain ⟨hl0, x0, x1, x2⟩ := box3t HX0.out
    obtain ⟨hq1, d0, d1, d2, d3, d4, f1⟩ := H.out.facts
    have hz1 : W1.heap.size = W.heap.size + 1 := by rw [← hW1, World.size_alloc]
    have hPut : ∀ (p' : PropV) (w2 : World), ProW w2 q bp ba N p' → ∃ w3, (Instr.mapUpdate 86 (.map (some bp)) (.int .i64 k) (.bool yes)).run Tryd.prog w2 = .ok () w3 ∧ ProB w2 q bp ba (N + 1) ⟨p'.voters, p'.text, p'.greatest, setV p'.prom k yes, p'.acc⟩ w3 := fun p' w2 h' => by
      obtain ⟨w3, hrun, hm2, hk2⟩ := h'.prom.put_run Tryd.underlying86 hN k HF.out.1 HF.out.2 yes
      exact ⟨w3, hrun, h'.put_prom hm2 hk2⟩
    have HPut := Lib.hid hPut
    clear hPut c0 c1 c2 c3 c4 f0
    cases yes with
    | false =>
      have e : P = ⟨p.voters, p.text, p.greatest, setV p.prom k false, p.acc⟩ := by rw [← HP2.out, HP.out]; rfl
      have HPE := Lib.hid e
      clear e
      go_enter Tryd.func36, Tryd.ntmps36
      go_wp2_with fail
      refine CA.out.mono ?_
      rintro e w1 ⟨rfl, rfl⟩
      go_wp2_with fail
      go_quiet (fail)
      obtain ⟨w3, hrun, hp3⟩ := HPut.out p (W1.drewN (nq + 1)) (H.out.drewN _)
      have HP3 := Lib.hid (show ProB W1 q bp ba (N + 1) P w3 from by rw [HPE.out]; exact hp3.ofDrewN)
      clear hp3
      obtain ⟨hq3, e0, e1, e2, e3, e4, f3⟩ := HP3.out.1.facts
      have CN := Lib.hid (most_any e0 HP3.out.1.prom HKP.out.small HKP.out.prom)
      clear e0 e1 e2 e4 f3 hz1
      go_wp2_with fail
      go_region
      go_wp2_with fail
      refine CN.out.mono ?_
      rintro e w4 ⟨rfl, hb⟩
      have HE := Lib.hid (ProB.late HB0.out (HP3.out.below hb))
      clear hb CN CA
      go_wp2_with fail
      go_ret
      exact ⟨rfl, HE.out⟩
    | true =>
      have CM := Lib.hid (most_any (W := W1.drew) (q := q) (p := p) (b := bp) (m := N) (g := p.prom) d0 (H.out.drewN 1).prom HK.out.small HK.out.prom)
      rw [HM.out] at CM
      have HS := Lib.hid (fun (w2 : World) (hb : Below W1.drew.heap.size W1.drew w2) => show w2.cell? ⟨W.heap.size, 0, none⟩ = some (.bool true) ∧ w2.cell? ⟨q, 3, none⟩ = some (.map (some bp)) ∧ w2.cell? ⟨W.heap.size, 1, none⟩ = some (.int .i64 b) ∧ w2.cell? ⟨q, 2, none⟩ = some (.int .i64 p.greatest) from
        ⟨(below_cells hb _ _ hl0).trans x0, (below_cells hb _ _ hq1).trans d3, (below_cells hb _ _ hl0).trans x1, (below_cells hb _ _ hq1).trans d2⟩)
      go_enter Tryd.func36, Tryd.ntmps36
      go_wp2_with fail
      refine CA.out.mono ?_
      rintro e w1 ⟨rfl, rfl⟩
      clear CA
      cases M with
      | true =>
        have e : P = ⟨p.voters, p.text, p.greatest, setV p.prom k true, p.acc⟩ := by rw [← HP2.out, HP.out]; rfl
        have HPE := Lib.hid e
        clear e
        go_wp2_with fail
        --BEGINA
        refine wp_region_held_drew (S := fun Y => Y.cell? ⟨W.heap.size, 0, none⟩ = some (.bool true) ∧ Y.cell? ⟨q, 3, none⟩ = some (.map (some bp)) ∧ Y.cell? ⟨W.heap.size, 1, none⟩ = some (.int .i64 b) ∧ Y.cell? ⟨q, 2, none⟩ = some (.int .i64 p.greatest)) (by kernel_rfl) ⟨x0, d3, x1, d2⟩ (fun hHeld => ?_)
        change wpAnyH _ _ _ _ _ 20 #[false, false, false, false, false, false, false, false, false, false, false, false, false, false, false, false, false, false, false, false] _ _
        refine takeH 0 21 (v := ?v1) rfl rfl (by kernel_rfl) (by kernel_rfl) (by kernel_rfl) (fun _ _ _ h => h) (Or.inl ⟨by rfl, ?h1⟩) hHeld ?r1
        case h1 =>
          intro w hSw
          obtain ⟨hSw1, hSw2, hSw3, hSw4⟩ := hSw
          go_simp
          try with_reducible rfl
        simp only [List.setIfInBounds_toArray, List.set_cons_zero, List.set_cons_succ]
        refine takeH 1 22 (v := ?v2) rfl rfl (by kernel_rfl) (by kernel_rfl) (by kernel_rfl) (fun _ _ _ h => h) (Or.inl ⟨by rfl, ?h2⟩) hHeld ?r2
        case h2 =>
          intro w hSw
          obtain ⟨hSw1, hSw2, hSw3, hSw4⟩ := hSw
          go_simp
          try with_reducible rfl
        simp only [List.setIfInBounds_toArray, List.set_cons_zero, List.set_cons_succ]
        refine takeH 2 23 (v := (.bool true)) rfl rfl (by kernel_rfl) (by kernel_rfl) (by kernel_rfl) (fun _ _ _ h => h) (Or.inl ⟨by rfl, ?h3⟩) hHeld ?r3
        case h3 =>
          intro w hSw
          obtain ⟨hSw1, hSw2, hSw3, hSw4⟩ := hSw
          go_simp
          try with_reducible rfl
        simp only [List.setIfInBounds_toArray, List.set_cons_zero, List.set_cons_succ]
        refine takeH 3 24 (v := ?v4) rfl rfl (by kernel_rfl) (by kernel_rfl) (by kernel_rfl) (fun _ _ _ h => h) (Or.inl ⟨by rfl, ?h4⟩) hHeld ?r4
        case h4 =>
          intro w hSw
          obtain ⟨hSw1, hSw2, hSw3, hSw4⟩ := hSw
          go_simp
          try with_reducible rfl
        simp only [List.setIfInBounds_toArray, List.set_cons_zero, List.set_cons_succ]
        refine takeH 4 25 (v := ?v5) rfl rfl (by kernel_rfl) (by kernel_rfl) (by kernel_rfl) (fun _ _ _ h => h) (Or.inl ⟨by rfl, ?h5⟩) hHeld ?r5
        case h5 =>
          intro w hSw
          obtain ⟨hSw1, hSw2, hSw3, hSw4⟩ := hSw
          go_simp
          try with_reducible rfl
        simp only [List.setIfInBounds_toArray, List.set_cons_zero, List.set_cons_succ]
        refine takeH 5 26 (v := ?v6) rfl rfl (by kernel_rfl) (by kernel_rfl) (by kernel_rfl) (fun _ _ _ h => h) (Or.inl ⟨by rfl, ?h6⟩) hHeld ?r6
        case h6 =>
          intro w hSw
          obtain ⟨hSw1, hSw2, hSw3, hSw4⟩ := hSw
          go_simp
          try with_reducible rfl
        simp only [List.setIfInBounds_toArray, List.set_cons_zero, List.set_cons_succ]
        refine takeH 6 27 (v := ?v7) rfl rfl (by kernel_rfl) (by kernel_rfl) (by kernel_rfl) (fun _ _ _ h => h) (Or.inl ⟨by rfl, ?h7⟩) hHeld ?r7
        case h7 =>
          intro w hSw
          obtain ⟨hSw1, hSw2, hSw3, hSw4⟩ := hSw
          go_simp
          try with_reducible rfl
        simp only [List.setIfInBounds_toArray, List.set_cons_zero, List.set_cons_succ]
        refine takeH 7 28 (v := ?v8) rfl rfl (by kernel_rfl) (by kernel_rfl) (by kernel_rfl) (fun _ _ _ h => h) (Or.inl ⟨by rfl, ?h8⟩) hHeld ?r8
        case h8 =>
          intro w hSw
          obtain ⟨hSw1, hSw2, hSw3, hSw4⟩ := hSw
          go_simp
          try with_reducible rfl
        simp only [List.setIfInBounds_toArray, List.set_cons_zero, List.set_cons_succ]
        refine wpAnyH_ready (rs := [8]) (by kernel_rfl) (by simp) ?_
        refine AllReadyH.cons rfl (fun K hK => ?_) AllReadyH.nil
        go_simp
        (with_reducible refine CM.out.mono ?_)
        rintro en w2 ⟨rfl, hb2⟩
        have HB2 := Lib.hid hb2
        refine hK.out _ _ (HS.out w2 hb2) (fun hHeld => ?_)
        clear hK K
        try simp only [List.setIfInBounds_toArray, List.set_cons_zero, List.set_cons_succ]
        refine takeH 9 30 (v := (.bool false)) rfl rfl (by kernel_rfl) (by kernel_rfl) (by kernel_rfl) (fun _ _ _ h => h) (Or.inl ⟨by rfl, ?h9⟩) hHeld ?r9
        case h9 =>
          intro w hSw
          obtain ⟨hSw1, hSw2, hSw3, hSw4⟩ := hSw
          go_simp
          try with_reducible rfl
        simp only [List.setIfInBounds_toArray, List.set_cons_zero, List.set_cons_succ]
        refine takeH 10 31 (v := (.bool false)) rfl rfl (by kernel_rfl) (by kernel_rfl) (by kernel_rfl) (fun _ _ _ h => h) (Or.inl ⟨by rfl, ?h10⟩) hHeld ?r10
        case h10 =>
          intro w hSw
          obtain ⟨hSw1, hSw2, hSw3, hSw4⟩ := hSw
          go_simp
          try with_reducible rfl
        simp only [List.setIfInBounds_toArray, List.set_cons_zero, List.set_cons_succ]
        refine takeH 11 32 (v := (.bool false)) rfl rfl (by kernel_rfl) (by kernel_rfl) (by kernel_rfl) (fun _ _ _ h => h) (Or.inl ⟨by rfl, ?h11⟩) hHeld ?r11
        case h11 =>
          intro w hSw
          obtain ⟨hSw1, hSw2, hSw3, hSw4⟩ := hSw
          go_simp
          try with_reducible rfl
        simp only [List.setIfInBounds_toArray, List.set_cons_zero, List.set_cons_succ]
        refine takeH 12 33 (v := undef) rfl rfl (by kernel_rfl) (by kernel_rfl) (by kernel_rfl) (fun _ _ _ h => h) (Or.inr ⟨by rfl, rfl⟩) hHeld ?_
        simp only [List.setIfInBounds_toArray, List.set_cons_zero, List.set_cons_succ]
        refine takeH 13 34 (v := undef) rfl rfl (by kernel_rfl) (by kernel_rfl) (by kernel_rfl) (fun _ _ _ h => h) (Or.inr ⟨by rfl, rfl⟩) hHeld ?_
        simp only [List.setIfInBounds_toArray, List.set_cons_zero, List.set_cons_succ]
        refine takeH 14 35 (v := undef) rfl rfl (by kernel_rfl) (by kernel_rfl) (by kernel_rfl) (fun _ _ _ h => h) (Or.inr ⟨by rfl, rfl⟩) hHeld ?_
        simp only [List.setIfInBounds_toArray, List.set_cons_zero, List.set_cons_succ]
        refine takeH 15 36 (v := undef) rfl rfl (by kernel_rfl) (by kernel_rfl) (by kernel_rfl) (fun _ _ _ h => h) (Or.inr ⟨by rfl, rfl⟩) hHeld ?_
        simp only [List.setIfInBounds_toArray, List.set_cons_zero, List.set_cons_succ]
        refine takeH 16 37 (v := undef) rfl rfl (by kernel_rfl) (by kernel_rfl) (by kernel_rfl) (fun _ _ _ h => h) (Or.inr ⟨by rfl, rfl⟩) hHeld ?_
        simp only [List.setIfInBounds_toArray, List.set_cons_zero, List.set_cons_succ]
        refine takeH 17 38 (v := undef) rfl rfl (by kernel_rfl) (by kernel_rfl) (by kernel_rfl) (fun _ _ _ h => h) (Or.inr ⟨by rfl, rfl⟩) hHeld ?_
        simp only [List.setIfInBounds_toArray, List.set_cons_zero, List.set_cons_succ]
        refine takeH 18 39 (v := undef) rfl rfl (by kernel_rfl) (by kernel_rfl) (by kernel_rfl) (fun _ _ _ h => h) (Or.inr ⟨by rfl, rfl⟩) hHeld ?_
        simp only [List.setIfInBounds_toArray, List.set_cons_zero, List.set_cons_succ]
        refine takeH 19 40 (v := (.bool false)) rfl rfl (by kernel_rfl) (by kernel_rfl) (by kernel_rfl) (fun _ _ _ h => h) (Or.inl ⟨by rfl, ?h19⟩) hHeld ?r19
        case h19 =>
          intro w hSw
          obtain ⟨hSw1, hSw2, hSw3, hSw4⟩ := hSw
          go_simp
          try with_reducible rfl
        simp only [List.setIfInBounds_toArray, List.set_cons_zero, List.set_cons_succ]
        refine wpAnyH_done (by kernel_rfl) ?_ _
        --ENDA
        have B2 := Lib.hid (show Below W.heap.size W w2 from HB0.out.trans ((show Below W1.heap.size W1 w2 from ⟨hb2.os, hb2.tape, hb2.output, hb2.size, hb2.block⟩).mono HB0.out.size))
        have H2 := Lib.hid ((H.out.drewN 1).below hb2)
        have hl2 : W.heap.size < w2.heap.size := Nat.lt_of_lt_of_le hl0 hb2.size
        have y0 := hHeld.1
        have y1 := hHeld.2.2.1
        have y2 := (below_cells hb2 _ _ hl0).trans x2
        obtain ⟨hq2, e0, e1, e2, e3, e4, f2⟩ := H2.out.facts
        obtain ⟨w3, hrun, hp3⟩ := HPut.out p w2.drew (H2.out.drewN 1)
        have HP3 := Lib.hid (show ProB W q bp ba (N + 1) P w3 from ProB.late B2.out (by rw [HPE.out]; exact ProB.ofDrewN (n := 1) hp3))
        obtain ⟨hq3, g0, g1, g2, g3, g4, f3⟩ := HP3.out.1.facts
        have CN := Lib.hid (most_any g0 HP3.out.1.prom HKP.out.small HKP.out.prom)
        clear hp3 g0 g1 g2 g4 f3 hz1 hb2 HB2 CM hHeld x0 x1 x2 d0 d1 d2 d3 d4 f1 HS hW1
        go_wp2_with fail
        go_region
        go_wp2_with fail
        refine CN.out.mono ?_
        rintro e w4 ⟨rfl, hb⟩
        have HE := Lib.hid (HP3.out.below hb)
        clear hb CN
        go_wp2_with fail
        go_ret
        exact ⟨rfl, HE.out⟩
      | false =>
        obtain ⟨G, hG⟩ : ∃ G, decide (p.greatest < b) = G := ⟨_, rfl⟩
        have HG := Lib.hid hG
        go_wp2_with fail
        --BEGINB
        refine wp_region_held_drew (S := fun Y => Y.cell? ⟨W.heap.size, 0, none⟩ = some (.bool true) ∧ Y.cell? ⟨q, 3, none⟩ = some (.map (some bp)) ∧ Y.cell? ⟨W.heap.size, 1, none⟩ = some (.int .i64 b) ∧ Y.cell? ⟨q, 2, none⟩ = some (.int .i64 p.greatest)) (by kernel_rfl) ⟨x0, d3, x1, d2⟩ (fun hHeld => ?_)
        change wpAnyH _ _ _ _ _ 20 #[false, false, false, false, false, false, false, false, false, false, false, false, false, false, false, false, false, false, false, false] _ _
        refine takeH 0 21 (v := ?v20) rfl rfl (by kernel_rfl) (by kernel_rfl) (by kernel_rfl) (fun _ _ _ h => h) (Or.inl ⟨by rfl, ?h20⟩) hHeld ?r20
        case h20 =>
          intro w hSw
          obtain ⟨hSw1, hSw2, hSw3, hSw4⟩ := hSw
          go_simp
          try with_reducible rfl
        simp only [List.setIfInBounds_toArray, List.set_cons_zero, List.set_cons_succ]
        refine takeH 1 22 (v := ?v21) rfl rfl (by kernel_rfl) (by kernel_rfl) (by kernel_rfl) (fun _ _ _ h => h) (Or.inl ⟨by rfl, ?h21⟩) hHeld ?r21
        case h21 =>
          intro w hSw
          obtain ⟨hSw1, hSw2, hSw3, hSw4⟩ := hSw
          go_simp
          try with_reducible rfl
        simp only [List.setIfInBounds_toArray, List.set_cons_zero, List.set_cons_succ]
        refine takeH 2 23 (v := (.bool true)) rfl rfl (by kernel_rfl) (by kernel_rfl) (by kernel_rfl) (fun _ _ _ h => h) (Or.inl ⟨by rfl, ?h22⟩) hHeld ?r22
        case h22 =>
          intro w hSw
          obtain ⟨hSw1, hSw2, hSw3, hSw4⟩ := hSw
          go_simp
          try with_reducible rfl
        simp only [List.setIfInBounds_toArray, List.set_cons_zero, List.set_cons_succ]
        refine takeH 3 24 (v := ?v23) rfl rfl (by kernel_rfl) (by kernel_rfl) (by kernel_rfl) (fun _ _ _ h => h) (Or.inl ⟨by rfl, ?h23⟩) hHeld ?r23
        case h23 =>
          intro w hSw
          obtain ⟨hSw1, hSw2, hSw3, hSw4⟩ := hSw
          go_simp
          try with_reducible rfl
        simp only [List.setIfInBounds_toArray, List.set_cons_zero, List.set_cons_succ]
        refine takeH 4 25 (v := ?v24) rfl rfl (by kernel_rfl) (by kernel_rfl) (by kernel_rfl) (fun _ _ _ h => h) (Or.inl ⟨by rfl, ?h24⟩) hHeld ?r24
        case h24 =>
          intro w hSw
          obtain ⟨hSw1, hSw2, hSw3, hSw4⟩ := hSw
          go_simp
          try with_reducible rfl
        simp only [List.setIfInBounds_toArray, List.set_cons_zero, List.set_cons_succ]
        refine takeH 5 26 (v := ?v25) rfl rfl (by kernel_rfl) (by kernel_rfl) (by kernel_rfl) (fun _ _ _ h => h) (Or.inl ⟨by rfl, ?h25⟩) hHeld ?r25
        case h25 =>
          intro w hSw
          obtain ⟨hSw1, hSw2, hSw3, hSw4⟩ := hSw
          go_simp
          try with_reducible rfl
        simp only [List.setIfInBounds_toArray, List.set_cons_zero, List.set_cons_succ]
        refine takeH 6 27 (v := ?v26) rfl rfl (by kernel_rfl) (by kernel_rfl) (by kernel_rfl) (fun _ _ _ h => h) (Or.inl ⟨by rfl, ?h26⟩) hHeld ?r26
        case h26 =>
          intro w hSw
          obtain ⟨hSw1, hSw2, hSw3, hSw4⟩ := hSw
          go_simp
          try with_reducible rfl
        simp only [List.setIfInBounds_toArray, List.set_cons_zero, List.set_cons_succ]
        refine takeH 7 28 (v := ?v27) rfl rfl (by kernel_rfl) (by kernel_rfl) (by kernel_rfl) (fun _ _ _ h => h) (Or.inl ⟨by rfl, ?h27⟩) hHeld ?r27
        case h27 =>
          intro w hSw
          obtain ⟨hSw1, hSw2, hSw3, hSw4⟩ := hSw
          go_simp
          try with_reducible rfl
        simp only [List.setIfInBounds_toArray, List.set_cons_zero, List.set_cons_succ]
        refine wpAnyH_ready (rs := [8]) (by kernel_rfl) (by simp) ?_
        refine AllReadyH.cons rfl (fun K hK => ?_) AllReadyH.nil
        go_simp
        (with_reducible refine CM.out.mono ?_)
        rintro en w2 ⟨rfl, hb2⟩
        have HB2 := Lib.hid hb2
        refine hK.out _ _ (HS.out w2 hb2) (fun hHeld => ?_)
        clear hK K
        try simp only [List.setIfInBounds_toArray, List.set_cons_zero, List.set_cons_succ]
        refine takeH 9 30 (v := (.bool true)) rfl rfl (by kernel_rfl) (by kernel_rfl) (by kernel_rfl) (fun _ _ _ h => h) (Or.inl ⟨by rfl, ?h28⟩) hHeld ?r28
        case h28 =>
          intro w hSw
          obtain ⟨hSw1, hSw2, hSw3, hSw4⟩ := hSw
          go_simp
          try with_reducible rfl
        simp only [List.setIfInBounds_toArray, List.set_cons_zero, List.set_cons_succ]
        refine takeH 10 31 (v := (.bool true)) rfl rfl (by kernel_rfl) (by kernel_rfl) (by kernel_rfl) (fun _ _ _ h => h) (Or.inl ⟨by rfl, ?h29⟩) hHeld ?r29
        case h29 =>
          intro w hSw
          obtain ⟨hSw1, hSw2, hSw3, hSw4⟩ := hSw
          go_simp
          try with_reducible rfl
        simp only [List.setIfInBounds_toArray, List.set_cons_zero, List.set_cons_succ]
        refine takeH 11 32 (v := (.bool true)) rfl rfl (by kernel_rfl) (by kernel_rfl) (by kernel_rfl) (fun _ _ _ h => h) (Or.inl ⟨by rfl, ?h30⟩) hHeld ?r30
        case h30 =>
          intro w hSw
          obtain ⟨hSw1, hSw2, hSw3, hSw4⟩ := hSw
          go_simp
          try with_reducible rfl
        simp only [List.setIfInBounds_toArray, List.set_cons_zero, List.set_cons_succ]
        refine takeH 12 33 (v := ?v31) rfl rfl (by kernel_rfl) (by kernel_rfl) (by kernel_rfl) (fun _ _ _ h => h) (Or.inl ⟨by rfl, ?h31⟩) hHeld ?r31
        case h31 =>
          intro w hSw
          obtain ⟨hSw1, hSw2, hSw3, hSw4⟩ := hSw
          go_simp
          try with_reducible rfl
        simp only [List.setIfInBounds_toArray, List.set_cons_zero, List.set_cons_succ]
        refine takeH 13 34 (v := ?v32) rfl rfl (by kernel_rfl) (by kernel_rfl) (by kernel_rfl) (fun _ _ _ h => h) (Or.inl ⟨by rfl, ?h32⟩) hHeld ?r32
        case h32 =>
          intro w hSw
          obtain ⟨hSw1, hSw2, hSw3, hSw4⟩ := hSw
          go_simp
          try with_reducible rfl
        simp only [List.setIfInBounds_toArray, List.set_cons_zero, List.set_cons_succ]
        refine takeH 14 35 (v := ?v33) rfl rfl (by kernel_rfl) (by kernel_rfl) (by kernel_rfl) (fun _ _ _ h => h) (Or.inl ⟨by rfl, ?h33⟩) hHeld ?r33
        case h33 =>
          intro w hSw
          obtain ⟨hSw1, hSw2, hSw3, hSw4⟩ := hSw
          go_simp
          try with_reducible rfl
        simp only [List.setIfInBounds_toArray, List.set_cons_zero, List.set_cons_succ]
        refine takeH 15 36 (v := ?v34) rfl rfl (by kernel_rfl) (by kernel_rfl) (by kernel_rfl) (fun _ _ _ h => h) (Or.inl ⟨by rfl, ?h34⟩) hHeld ?r34
        case h34 =>
          intro w hSw
          obtain ⟨hSw1, hSw2, hSw3, hSw4⟩ := hSw
          go_simp
          try with_reducible rfl
        simp only [List.setIfInBounds_toArray, List.set_cons_zero, List.set_cons_succ]
        refine takeH 16 37 (v := ?v35) rfl rfl (by kernel_rfl) (by kernel_rfl) (by kernel_rfl) (fun _ _ _ h => h) (Or.inl ⟨by rfl, ?h35⟩) hHeld ?r35
        case h35 =>
          intro w hSw
          obtain ⟨hSw1, hSw2, hSw3, hSw4⟩ := hSw
          go_simp
          try with_reducible rfl
        simp only [List.setIfInBounds_toArray, List.set_cons_zero, List.set_cons_succ]
        refine takeH 17 38 (v := ?v36) rfl rfl (by kernel_rfl) (by kernel_rfl) (by kernel_rfl) (fun _ _ _ h => h) (Or.inl ⟨by rfl, ?h36⟩) hHeld ?r36
        case h36 =>
          intro w hSw
          obtain ⟨hSw1, hSw2, hSw3, hSw4⟩ := hSw
          go_simp
          try with_reducible rfl
        simp only [List.setIfInBounds_toArray, List.set_cons_zero, List.set_cons_succ]
        refine takeH 18 39 (v := (.bool G)) rfl rfl (by kernel_rfl) (by kernel_rfl) (by kernel_rfl) (fun _ _ _ h => h) (Or.inl ⟨by rfl, ?h37⟩) hHeld ?r37
        case h37 =>
          intro w hSw
          obtain ⟨hSw1, hSw2, hSw3, hSw4⟩ := hSw
          go_simp
          try with_reducible rfl
        simp only [List.setIfInBounds_toArray, List.set_cons_zero, List.set_cons_succ]
        refine takeH 19 40 (v := (.bool G)) rfl rfl (by kernel_rfl) (by kernel_rfl) (by kernel_rfl) (fun _ _ _ h => h) (Or.inl ⟨by rfl, ?h38⟩) hHeld ?r38
        case h38 =>
          intro w hSw
          obtain ⟨hSw1, hSw2, hSw3, hSw4⟩ := hSw
          go_simp
          try with_reducible rfl
        simp only [List.setIfInBounds_toArray, List.set_cons_zero, List.set_cons_succ]
        refine wpAnyH_done (by kernel_rfl) ?_ _
        --ENDB
        cases G with
        | false =>
          have e : P = ⟨p.voters, p.text, p.greatest, setV p.prom k true, p.acc⟩ := by rw [← HP2.out, HP.out, HG.out]; rfl
          have HPE := Lib.hid e
          clear e
          have B2 := Lib.hid (show Below W.heap.size W w2 from HB0.out.trans ((show Below W1.heap.size W1 w2 from ⟨hb2.os, hb2.tape, hb2.output, hb2.size, hb2.block⟩).mono HB0.out.size))
          have H2 := Lib.hid ((H.out.drewN 1).below hb2)
          have hl2 : W.heap.size < w2.heap.size := Nat.lt_of_lt_of_le hl0 hb2.size
          have y0 := hHeld.1
          have y1 := hHeld.2.2.1
          have y2 := (below_cells hb2 _ _ hl0).trans x2
          obtain ⟨hq2, e0, e1, e2, e3, e4, f2⟩ := H2.out.facts
          obtain ⟨w3, hrun, hp3⟩ := HPut.out p w2.drew (H2.out.drewN 1)
          have HP3 := Lib.hid (show ProB W q bp ba (N + 1) P w3 from ProB.late B2.out (by rw [HPE.out]; exact ProB.ofDrewN (n := 1) hp3))
          obtain ⟨hq3, g0, g1, g2, g3, g4, f3⟩ := HP3.out.1.facts
          have CN := Lib.hid (most_any g0 HP3.out.1.prom HKP.out.small HKP.out.prom)
          clear hp3 g0 g1 g2 g4 f3 hz1 hb2 HB2 CM hHeld x0 x1 x2 d0 d1 d2 d3 d4 f1 HS hW1
          go_wp2_with fail
          go_region
          go_wp2_with fail
          refine CN.out.mono ?_
          rintro e w4 ⟨rfl, hb⟩
          have HE := Lib.hid (HP3.out.below hb)
          clear hb CN
          go_wp2_with fail
          go_ret
          exact ⟨rfl, HE.out⟩
        | true =>
          have e : P = ⟨p.voters, t, b, setV p.prom k true, p.acc⟩ := by rw [← HP2.out, HP.out, HG.out]; rfl
          have HPE := Lib.hid e
          clear e
          have B2 := Lib.hid (show Below W.heap.size W w2 from HB0.out.trans ((show Below W1.heap.size W1 w2 from ⟨hb2.os, hb2.tape, hb2.output, hb2.size, hb2.block⟩).mono HB0.out.size))
          have H2 := Lib.hid ((H.out.drewN 1).below hb2)
          have hl2 : W.heap.size < w2.heap.size := Nat.lt_of_lt_of_le hl0 hb2.size
          have y0 := hHeld.1
          have y1 := hHeld.2.2.1
          have y2 := (below_cells hb2 _ _ hl0).trans x2
          obtain ⟨hq2, e0, e1, e2, e3, e4, f2⟩ := H2.out.facts
          obtain ⟨W4, hW4⟩ : ∃ W4, (w2.setCell ⟨q, 2, none⟩ (.int .i64 b)).setCell ⟨q, 1, none⟩ (.string t) = W4 := ⟨_, rfl⟩
          have hk4 : Kept (fun j => j = q) w2 W4 := by rw [← hW4]; exact Kept.setCell (F := fun j => j = q) (Kept.setCell (F := fun j => j = q) (Kept.refl _ w2) (p := ⟨q, 2, none⟩) (.inl rfl) _) (p := ⟨q, 1, none⟩) (.inl rfl) _
          have hc4 : W4.heap[q]? = some (.cells #[.int .i64 (p.voters : Int), .string t, .int .i64 b, .map (some bp), .map (some ba)] 88 (0, 0)) := by
            rw [← hW4]
            exact heap_setCell_same _ _ _ _ _ _ (heap_setCell_same _ _ _ _ _ _ (show w2.heap[q]? = _ from H2.out.cells))
          have HB4 := Lib.hid (H2.out.better b t hc4 hk4)
          have hx4 := hk4.heap ((Kept.of_below (F := fun _ => False) hb2).heap HX0.out (fun h => h)) (fun e => by omega)
          obtain ⟨hl4, z0, z1, z2⟩ := box3t hx4
          obtain ⟨hq4, j0, j1, j2, j3, j4, f4⟩ := HB4.out.1.facts
          obtain ⟨w3, hrun, hp3⟩ := HPut.out _ W4.drew.drew (HB4.out.1.drewN 2)
          have HP3 := Lib.hid (show ProB W q bp ba (N + 1) P w3 from ProB.late B2.out (HB4.out.trans (by rw [HPE.out]; exact ProB.ofDrewN (n := 2) hp3)))
          clear hk4 hc4 hx4
          obtain ⟨hq3, g0, g1, g2, g3, g4, f3⟩ := HP3.out.1.facts
          have CN := Lib.hid (most_any g0 HP3.out.1.prom HKP.out.small HKP.out.prom)
          clear hp3 g0 g1 g2 g4 f3 hz1 hb2 HB2 CM hHeld x0 x1 x2 d0 d1 d2 d3 d4 f1 HS hW1
          go_wp2_with fail
          go_region
          go_wp2_with fail
          go_region
          go_wp2_with fail
          refine CN.out.mono ?_
          rintro e w4 ⟨rfl, hb⟩
          have HE := Lib.hid (HP3.out.below hb)
          clear hb CN
          go_wp2_with fail
          go_ret
          exact ⟨rfl, HE.out⟩
end
end Go.Proofs.YtefcbofjndnpkaaDoor
