/- Package plan's Replace. -/
import Derived.Test.YtjcingefdgmdkaaDoorPlH
import Derived.Test.YtjcingefdgmdkaaDoorNumA
import Derived.Deep.RegionLaw
namespace Go.Proofs.YtjcingefdgmdkaaDoor
open Go.RowKit Tide

theorem grid_nil (w : World) (B : Nat) : Grid w B (.slice none 0 0) [] := ⟨[], ⟨by simp, none, 0, rfl, by simp, by simp, fun h => absurd rfl h⟩, rfl, fun i u c hu => by simp at hu⟩
/-- append of one, within a region. -/
theorem step_push {P : Program} (w : World) {ops : Array Oper} {o : Oper} {a : Act} {K : Act → World → Prop} {Q : Exit → Act → World → Prop} {E : Prop} (hP : P = Tryd.prog) (hgd : o.guard = none) (s y : Operand)
    (ho : o.op = .call { callee := .builtin .append, args := #[s, y], argTypes := #[25, 25] }) (base g : Nat) (v : Value) (l : List Int) (x : Int) (hs : a.eval s = v) (hy : a.eval y = .slice (some ⟨g, 0, none⟩) 1 1)
    (hg : w.heap[g]? = some (.cells #[.int .i64 x] 3 (0, 0))) (hown : Own w base v l) (hl : l.length ≤ 1000000) (hb : base ≤ w.heap.size)
    (h : ∀ v' w', Own w' base v' (l ++ [x]) → w.grownBy w' v.ownBlock → (v'.ownBlock = v.ownBlock ∨ v'.ownBlock = some w.heap.size) → K (a.put o.dst v') w') :
    if Region.wanted o (yielded ops a.tmps) = true then Oper.wp P o a w K Q else E := by
  subst hP
  obtain ⟨i0, hi, hz0, hz1, hz2⟩ := info_parts infoInt
  refine step_append_row w hgd s y _ ho base 3 i0 (.int .i64 0) 8 Tryd.underlying25 hi hz0 hz1 hz2 rfl v l.length (int64s l) hs hown (g + 1) _ [.int .i64 x] hy ?_ (fun u hu => by simp at hu; subst hu; rfl) ?_ ?_ hb (fun v' w' h1 h2 h3 _ => h v' w' ?_ h2 h3)
  · refine ⟨by simp, _, 1, rfl, by simp, by simp, fun _ => ⟨g, 0, rfl, Nat.lt_succ_self _, fun j u hu => ?_⟩⟩
    have hj : j = 0 := by
      have := (List.getElem?_eq_some_iff.1 hu).1
      simp at this; exact this
    subst hj
    rw [cell_of_row _ _ (0 + 0) _ _ _ hg]
    simpa using hu
  · simp; unfold maxLen; omega
  · simp; omega
  · unfold Own
    rw [ints_app, List.length_append]
    exact h1
/-- What Replace answers. -/
def ReplR (E : Nat → Addr) (ep : Int) (cs : List (List Int)) (gl : List Int) (fresh : Int) (w : World) (e : Ending) (w' : World) : Prop :=
  ∃ v' x, e = .returned (.tuple #[planV (nextD ep cs gl fresh).2.1 v', x]) ∧ IsErr E x (nextD ep cs gl fresh).1 ∧ Grid w' w'.heap.size v' (nextD ep cs gl fresh).2.2 ∧ Below w.heap.size w w'
theorem replR_bad {E : Nat → Addr} {ep : Int} {cs : List (List Int)} {gl : List Int} {fresh : Int} {w w' : World} (m : Nat) (hm : m < 19) (hN : nextD ep cs gl fresh = (m + 1, 0, [])) (hb : Below w.heap.size w w') :
    ReplR E ep cs gl fresh w (.returned (.tuple #[planV 0 (.slice none 0 0), errAt (E m)])) w' :=
  ⟨_, _, by rw [hN], by rw [hN]; exact isErr_at E m hm, by rw [hN]; exact grid_nil _ _, hb⟩
theorem replR_ok {E : Nat → Addr} {ep : Int} {cs ds : List (List Int)} {gl : List Int} {fresh ep' : Int} {w w' : World} {v' : Value} (hN : nextD ep cs gl fresh = (0, ep', ds)) (hg : Grid w' w'.heap.size v' ds) (hb : Below w.heap.size w w') :
    ReplR E ep cs gl fresh w (.returned (.tuple #[planV ep' v', .nilIface])) w' :=
  ⟨v', _, by rw [hN], by rw [hN]; exact isErr_nil E, by rw [hN]; exact hg, hb⟩

set_option maxRecDepth 100000 in
set_option maxHeartbeats 4000000 in
theorem replace_any (E : Nat → Addr) (ep : Int) (cs : List (List Int)) (gl : List Int) (fresh : Int) (v gv : Value) (B : Nat) (w : World) (hv : Grid w B v cs) (hB : B ≤ w.heap.size) (hg : Row w B gv (int64s gl)) (hE : Errs w E) :
    Calls Tryd.prog 19 #[planV ep v, gv, .int .i64 fresh] w (ReplR E ep cs gl fresh w) := by
  obtain ⟨hgl, Ag, cg, rfl, _⟩ := row_ints hg
  have hvf : ∃ Av cv, v = .slice Av cs.length cv := by
    obtain ⟨_, A, c, e, _⟩ := hv.form
    exact ⟨A, c, e⟩
  obtain ⟨Av, cv, rfl⟩ := hvf
  have B0 := Lib.hid (((Below.refl w.heap.size w).alloc (Nat.le_refl _) (.cells #[.int .i64 ep, .slice Av cs.length cv] 24)).alloc (by simp) (.cells #[.int .i64 0, .slice none 0 0] 24))
  have P0 := Lib.hid ((Two.new w 24 (.int .i64 ep) (.slice Av cs.length cv)).alloc (.cells #[.int .i64 0, .slice none 0 0] 24))
  have R0 := Lib.hid (show Two _ (w.heap.size + 1) 24 _ _ from by
    have := Two.new (w.alloc (.cells #[.int .i64 ep, .slice Av cs.length cv] 24)) 24 (.int .i64 0) (.slice none 0 0)
    rwa [World.size_alloc] at this)
  have CR := Lib.hid (fun W (h : Below w.heap.size w W) => right_any ep cs _ B W (hv.below (h.mono hB)) (Nat.le_trans hB h.size))
  have CW := Lib.hid (fun (hR : rightB ep cs = true) W (h : Below w.heap.size w W) => without_any ep cs gl _ _ B W (hv.below (h.mono hB)) (Nat.le_trans hB h.size) (Row.keep hg (below_cells (h.mono hB))) (by have := (right_parts hR).2.2.2.1; omega) (fun c hc => by have := ((right_parts hR).2.2.2.2.1 c hc).2; omega))
  have CU := Lib.hid (fun (h : rightB ep cs = true) W (hb : Below w.heap.size w W) => units_any ep cs _ B W (hv.below (hb.mono hB)) (Nat.le_trans hB hb.size) h)
  have HV := Lib.hid (fun W (h : Below w.heap.size w W) => (show Grid W w.heap.size (.slice Av cs.length cv) cs from (hv.below (h.mono hB)).more hB))
  have HE := Lib.hid hE
  clear hv hB hg hE
  cases hr : rightB ep cs with
  | false =>
    rw [hr] at CR
    have HN := Lib.hid (next_form (gl := gl) (fresh := fresh) hr)
    clear hr CW CU
    go_enter Tryd.func19, Tryd.ntmps19
    go_wp2_with fail
    refine (CR.out _ B0.out).mono ?_
    rintro e w1 ⟨rfl, hb⟩
    have B1 := Lib.hid (B0.out.trans (hb.mono B0.out.size))
    have R1 := Lib.hid (R0.out.below hb R0.out.lt)
    obtain ⟨_, hd0, hd1, hdf⟩ := R1.out.facts
    have he := (HE.out.below B1.out).var 3 (by omega)
    simp only [evars, List.getD_cons_zero, List.getD_cons_succ] at he
    have hne : 0 < w.heap.size := World.block_lt_of_cell? _ _ (HE.out.var 3 (by omega))
    clear hb
    go_wp2_with fail
    go_region
    go_wp2_with fail
    obtain ⟨_, e0, e1, _⟩ := (put2_two R1.out (.int .i64 0) (.slice none 0 0)).facts
    exact bodyPost_ret (v := .tuple #[planV 0 (.slice none 0 0), errAt (E 3)]) (by simp [results, Tryd.results19, go_sem, e0, e1]) rfl (replR_bad 3 (by omega) HN.out (put2_below B1.out (by omega) _ _).drew)
  | true =>
    rw [hr] at CR
    have HR := Lib.hid hr
    clear hr
    cases q0 : (ep == 1073741824) with
    | true =>
      have HN := Lib.hid (next_epoch (gl := gl) (fresh := fresh) HR.out (by simpa using q0))
      clear CW CU
      go_enter Tryd.func19, Tryd.ntmps19
      go_wp2_with fail
      refine (CR.out _ B0.out).mono ?_
      rintro e w1 ⟨rfl, hb⟩
      have B1 := Lib.hid (B0.out.trans (hb.mono B0.out.size))
      have R1 := Lib.hid (R0.out.below hb R0.out.lt)
      have P1 := Lib.hid (P0.out.below hb P0.out.lt)
      obtain ⟨_, hp0, hp1, _⟩ := P1.out.facts
      obtain ⟨_, hd0, hd1, hdf⟩ := R1.out.facts
      have he := (HE.out.below B1.out).var 13 (by omega)
      simp only [evars, List.getD_cons_zero, List.getD_cons_succ] at he
      have hne : 13 < w.heap.size := World.block_lt_of_cell? _ _ (HE.out.var 13 (by omega))
      clear hb
      go_wp2_with fail
      go_region
      go_wp2_with fail
      obtain ⟨_, e0, e1, _⟩ := (put2_two R1.out (.int .i64 0) (.slice none 0 0)).facts
      exact bodyPost_ret (v := .tuple #[planV 0 (.slice none 0 0), errAt (E 13)]) (by simp [results, Tryd.results19, go_sem, e0, e1]) rfl (replR_bad 13 (by omega) HN.out (put2_below B1.out (by omega) _ _).drew)
    | false =>
      have hep : ep ≠ 1073741824 := by simpa using q0
      have hepb := (right_parts HR.out).2.1
      have hep0 := (right_parts HR.out).1
      go_enter Tryd.func19, Tryd.ntmps19
      go_wp2_with fail
      refine (CR.out _ B0.out).mono ?_
      rintro e w1 ⟨rfl, hb⟩
      have B1 := Lib.hid (B0.out.trans (hb.mono B0.out.size))
      have R1 := Lib.hid (R0.out.below hb R0.out.lt)
      have P1 := Lib.hid (P0.out.below hb P0.out.lt)
      obtain ⟨_, hp0, hp1, _⟩ := P1.out.facts
      clear hb
      go_wp2_with fail
      refine (CW.out HR.out _ B1.out).mono ?_
      rintro e w2 ⟨v2, vs, rfl, ho, hb⟩
      obtain ⟨A2, c2, rfl⟩ : ∃ A2 c2, v2 = .slice A2 cs.length c2 := by
        rcases ho.outer.2 with ⟨h1, h2⟩ | ⟨g, cap, _, h1, _⟩
        · exact ⟨none, 0, by rw [List.length_map] at h2; rw [h1, h2]⟩
        · exact ⟨_, cap, by rw [h1, List.length_map]⟩
      obtain ⟨ds, hds⟩ : ∃ ds, cs.map (delL gl) = ds := ⟨_, rfl⟩
      have HD := Lib.hid hds
      have HDl := Lib.hid (show ds.length = cs.length by rw [← hds, List.length_map])
      rw [hds] at ho
      have hs2 := hb.size
      have hs1 : w.heap.size + 2 ≤ w1.heap.size := R1.out.lt
      have hN3 := Two.new w2 24 (.int .i64 (ep + 1)) (.slice A2 cs.length c2)
      have N3 := Lib.hid hN3
      have hd3 := (Below.refl w2.heap.size w2).alloc (Nat.le_refl _) (.cells #[.int .i64 (ep + 1), .slice A2 cs.length c2] 24)
      have O3 := Lib.hid (ho.below hd3)
      have B3 := Lib.hid ((B1.out.trans (hb.mono B1.out.size)).trans (hd3.mono (Nat.le_trans B1.out.size hb.size)))
      have R3 := Lib.hid ((R1.out.below hb R1.out.lt).below hd3 (by have := R1.out.lt; omega))
      have P3 := Lib.hid ((P1.out.below hb P1.out.lt).below hd3 (by have := P1.out.lt; omega))
      have CG := Lib.hid (containsG_any ds _ _ _ O3.out.grid)
      clear hb ho hp0 hp1 hds CW P0 R0 B0 hd3 hN3
      go_wp2_with fail
      generalize hW3 : w2.alloc (.cells #[.int .i64 (ep + 1), .slice A2 cs.length c2] 24) = W3 at *
      clear hW3
      refine CG.out.mono ?_
      rintro e w4 ⟨rfl, rfl⟩
      clear CG
      by_cases hm : [] ∈ ds
      · have HN := Lib.hid (next_none (fresh := fresh) HR.out hep (by rw [HD.out]; exact hm))
        rw [decide_eq_true hm]
        clear hm
        obtain ⟨_, hd0, hd1, hdf⟩ := R3.out.facts
        have he := (HE.out.below B3.out).var 15 (by omega)
        simp only [evars, List.getD_cons_zero, List.getD_cons_succ] at he
        have hne : 15 < w.heap.size := World.block_lt_of_cell? _ _ (HE.out.var 15 (by omega))
        go_wp2_with fail
        go_region
        go_wp2_with fail
        obtain ⟨_, e0, e1, _⟩ := (put2_two R3.out (.int .i64 0) (.slice none 0 0)).facts
        exact bodyPost_ret (v := .tuple #[planV 0 (.slice none 0 0), errAt (E 15)]) (by simp [results, Tryd.results19, go_sem, e0, e1]) rfl (replR_bad 15 (by omega) HN.out (put2_below B3.out (by omega) _ _).drew)
      · rw [decide_eq_false hm]
        have HM := Lib.hid (show ¬ [] ∈ cs.map (delL gl) by rw [HD.out]; exact hm)
        clear hm
        cases q1 : decide (fresh < 0) with
        | true =>
          have HN := Lib.hid (show nextD ep cs gl fresh = (0, ep + 1, ds) by rw [← HD.out]; exact next_old HR.out hep HM.out (by simpa using q1))
          obtain ⟨_, hn0, hn1, _⟩ := N3.out.facts
          obtain ⟨_, hd0, hd1, hdf⟩ := R3.out.facts
          go_wp2_with fail
          obtain ⟨_, e0, e1, _⟩ := (put2_two R3.out (.int .i64 (ep + 1)) (.slice A2 cs.length c2)).facts
          have HG2 := (O3.out.kept (put2_kept (Kept.refl (fun j => j = w.heap.size + 1) _) (.inl rfl) (.int .i64 (ep + 1)) (.slice A2 cs.length c2)) (fun k hk => by omega)).grid
          exact bodyPost_ret (v := .tuple #[planV (ep + 1) (.slice A2 cs.length c2), .nilIface]) (by simp [results, Tryd.results19, go_sem, e0, e1]) rfl (replR_ok HN.out HG2 (put2_below B3.out (by omega) _ _))
        | false =>
        cases q2 : decide (12 ≤ fresh) with
        | true =>
          have HN := Lib.hid (next_range HR.out hep HM.out (by simpa using q1) (by simp at q2; omega))
          obtain ⟨_, hd0, hd1, hdf⟩ := R3.out.facts
          have he := (HE.out.below B3.out).var 0 (by omega)
          simp only [evars, List.getD_cons_zero] at he
          have hne : 1 < w.heap.size := World.block_lt_of_cell? _ _ (HE.out.var 0 (by omega))
          go_wp2_with fail
          go_region
          go_wp2_with fail
          obtain ⟨_, e0, e1, _⟩ := (put2_two R3.out (.int .i64 0) (.slice none 0 0)).facts
          exact bodyPost_ret (v := .tuple #[planV 0 (.slice none 0 0), errAt (E 0)]) (by simp [results, Tryd.results19, go_sem, e0, e1]) rfl (replR_bad 0 (by omega) HN.out (put2_below B3.out (by omega) _ _).drew)
        | false =>
          obtain ⟨_, hp0, hp1, _⟩ := P3.out.facts
          go_wp2_with fail
          refine (CU.out HR.out _ B3.out).mono ?_
          rintro e w5 ⟨v5, rfl, ho, hb⟩
          have B5 := Lib.hid (B3.out.trans (hb.mono B3.out.size))
          have R5 := Lib.hid (R3.out.below hb R3.out.lt)
          have P5 := Lib.hid (P3.out.below hb P3.out.lt)
          have N5 := Lib.hid (N3.out.below hb N3.out.lt)
          have O5 := Lib.hid (O3.out.below hb)
          have CC := Lib.hid (containsI_any fresh _ _ _ _ ho.row)
          have HMem := Lib.hid (units_mem (fresh := fresh) HR.out)
          generalize unitsL cs = ul at *
          clear hb ho CU B3 R3 P3 N3 O3 hp0 hp1
          go_wp2_with fail
          refine CC.out.mono ?_
          rintro e w6 ⟨rfl, rfl⟩
          clear CC
          by_cases hm : fresh ∈ ul
          · have HN := Lib.hid (next_state HR.out hep HM.out (by simpa using q1) (by simp at q2; omega) (HMem.out.1 hm))
            rw [decide_eq_true hm]
            clear hm
            obtain ⟨_, hd0, hd1, hdf⟩ := R5.out.facts
            have he := (HE.out.below B5.out).var 16 (by omega)
            simp only [evars, List.getD_cons_zero, List.getD_cons_succ] at he
            have hne : 16 < w.heap.size := World.block_lt_of_cell? _ _ (HE.out.var 16 (by omega))
            go_wp2_with fail
            go_region
            go_wp2_with fail
            obtain ⟨_, e0, e1, _⟩ := (put2_two R5.out (.int .i64 0) (.slice none 0 0)).facts
            exact bodyPost_ret (v := .tuple #[planV 0 (.slice none 0 0), errAt (E 16)]) (by simp [results, Tryd.results19, go_sem, e0, e1]) rfl (replR_bad 16 (by omega) HN.out (put2_below B5.out (by omega) _ _).drew)
          · rw [decide_eq_false hm]
            have HM2 := Lib.hid (show ¬ fresh ∈ cs.flatten from fun h => hm (HMem.out.2 h))
            clear hm HMem
            have CNd := Lib.hid (needy_any ep (ep + 1) cs ds _ _ _ w5 ((HV.out w5 B5.out).more B5.out.size) O5.out.grid (Nat.le_refl _) HDl.out (by rw [HDl.out]; have := (right_parts HR.out).2.2.1; omega))
            obtain ⟨_, hp0, hp1, _⟩ := P5.out.facts
            obtain ⟨_, hn0, hn1, _⟩ := N5.out.facts
            go_wp2_with fail
            refine CNd.out.mono ?_
            rintro e w7 ⟨rfl, hb⟩
            have B7 := Lib.hid (B5.out.trans (hb.mono B5.out.size))
            have R7 := Lib.hid (R5.out.below hb R5.out.lt)
            have N7 := Lib.hid (N5.out.below hb N5.out.lt)
            have O7 := Lib.hid (O5.out.below hb)
            clear hb CNd hp0 hp1 hn0 hn1 R5 P5 N5 O5
            have HX := Lib.hid (fun (h6 : 3 ≤ (ds.getD (toN cs ds) []).length) => next_full (gl := gl) (fresh := fresh) HR.out hep HM.out (by simpa using q1) (by simp at q2; omega) HM2.out HD.out.symm h6)
            have HY := Lib.hid (fun (h6 : ¬ 3 ≤ (ds.getD (toN cs ds) []).length) => next_new (gl := gl) (fresh := fresh) HR.out hep HM.out (by simpa using q1) (by simp at q2; omega) HM2.out HD.out.symm h6)
            have ht := to_lt cs (ds := ds) (by rw [HDl.out]; have := (right_parts HR.out).2.2.1; omega)
            have h3 : (ds.getD (toN cs ds) []).length ≤ 3 := by
              rw [List.getD_eq_getElem?_getD, List.getElem?_eq_getElem ht, Option.getD_some]
              obtain ⟨c, hc, he⟩ := List.mem_map.1 (by rw [HD.out]; exact List.getElem_mem ht)
              rw [← he]
              exact Nat.le_trans (delL_len gl c) ((right_parts HR.out).2.2.2.2.1 c hc).2
            have hout := O7.out.outer
            rw [HDl.out] at hout
            obtain ⟨b, c, hv2, hbb⟩ := ownV_form hout (by have := HDl.out; omega)
            injection hv2 with e1 e2 e3
            subst e1 e3
            have hdt : ds[toN cs ds]? = some (ds.getD (toN cs ds) []) := by rw [List.getD_eq_getElem?_getD, List.getElem?_eq_getElem ht]; rfl
            obtain ⟨u, hu⟩ : ∃ u, vs[toN cs ds]? = some u := ⟨_, List.getElem?_eq_getElem (by rw [ownV_len hout]; have := HDl.out; omega)⟩
            have hown := O7.out.rows _ u _ hu hdt
            obtain ⟨_, Au, cu, rfl, _⟩ := row_ints hown.row
            have hc1 := ownV_cell hout _ _ hu
            have i1 : (toN cs ds : Int) < (cs.length : Int) := by have := HDl.out; omega
            obtain ⟨_, hn0, hn1, _⟩ := N7.out.facts
            generalize ds.getD (toN cs ds) [] = cc at *
            generalize toN cs ds = t at *
            by_cases q3 : cc.length = 3
            · have HN := Lib.hid (HX.out (by omega))
              have q4 : ((cc.length : Int) == 3) = true := by rw [q3]; rfl
              clear q3
              obtain ⟨_, hd0, hd1, hdf⟩ := R7.out.facts
              have he := (HE.out.below B7.out).var 12 (by omega)
              simp only [evars, List.getD_cons_zero, List.getD_cons_succ] at he
              have hne : 12 < w.heap.size := World.block_lt_of_cell? _ _ (HE.out.var 12 (by omega))
              go_wp2_with fail
              go_region
              go_wp2_with fail
              obtain ⟨_, e0, e1, _⟩ := (put2_two R7.out (.int .i64 0) (.slice none 0 0)).facts
              exact bodyPost_ret (v := .tuple #[planV 0 (.slice none 0 0), errAt (E 12)]) (by simp [results, Tryd.results19, go_sem, e0, e1]) rfl (replR_bad 12 (by omega) HN.out (put2_below B7.out (by omega) _ _).drew)
            · have HN := Lib.hid (HY.out (by omega))
              have q4 : ((cc.length : Int) == 3) = false := beq_eq_false_iff_ne.2 (by omega)
              clear q3
              have HOw := Lib.hid (fun W (hb : Below w7.heap.size w7 W) => (show Own W w1.heap.size (.slice Au cc.length cu) cc from own_below hown hb))
              have HBW := Lib.hid (show b ≠ w2.heap.size ∧ b ≠ w.heap.size + 1 from ⟨fun e => two_apart N7.out hout (by decide) (by rw [← e]; rfl), by omega⟩)
              have HF := Lib.hid (show ∀ j, (Value.slice Au cc.length cu).ownBlock = some j → w1.heap.size ≤ j ∧ j ≠ w2.heap.size ∧ j ≠ b from fun j hj => ⟨(World.ownsRow.lt hown j hj).1, fun e => two_apart N7.out hown (by decide) (by rw [hj, e]), fun e => ownV_ne hown hout (by decide) j hj (by rw [e]; rfl)⟩)
              have KS := Lib.hid (show ∀ W : World, Kept (fun j => (Value.slice Au cc.length cu).ownBlock = some j) w7 W → (W.cell? ⟨w2.heap.size, 1, none⟩ = some (.slice (some ⟨b, 0, none⟩) cs.length c2) ∧ W.cell? ⟨b, t, none⟩ = some (.slice Au cc.length cu) ∧ W.frozen? ⟨b, t, none⟩ = false) from fun W hk =>
                have ho := hk.own hout (fun j hj hf => (HF.out j hf).2.2 (by injection hj with hj; exact hj.symm))
                ⟨(N7.out.kept hk (fun hf => (HF.out _ hf).2.1 rfl)).facts.2.2.1, ownV_cell ho t _ hu, ownV_free ho t⟩)
              have HP := Lib.hid (fun (w' : World) (u' : Value) (ho : Own w' w1.heap.size u' (cc ++ [fresh])) (hbk : u'.ownBlock = (Value.slice Au cc.length cu).ownBlock ∨ u'.ownBlock = some (w7.heap.size + 1)) (hk : Kept (fun j => (Value.slice Au cc.length cu).ownBlock = some j) w7 w') =>
                O7.out.put hu hk ho (fun j hj => hbk.elim (fun h => .inl (by rw [← h]; exact hj)) (fun h => .inr (by rw [h] at hj; injection hj with hj; omega))))
              have hs7 : w1.heap.size ≤ w7.heap.size := by have := (World.ownsRow.lt hout b rfl); omega
              have hf7 := ownV_free hout t
              have hbl := (World.ownsRow.lt hout b rfl).2
              have hbn : b ≠ w7.heap.size := by omega
              clear hown hout CR
              go_wp2_with fail
              go_region_law (first
                | (refine step_push _ rfl rfl (.tmp 64) (.tmp 66) rfl w1.heap.size w7.heap.size (.slice Au cc.length cu) cc fresh rfl rfl ?_ ?_ (by omega) ?_ ?_; (exact heap_alloc_new w7 _); (exact HOw.out _ ((Below.refl _ w7).alloc (Nat.le_refl _) _).drew); (simp; omega); intro v8 w8 h1 h2 h3; obtain ⟨A8, c8, rfl⟩ : ∃ A8 c8, v8 = .slice A8 (cc.length + 1) c8 := (row_ints h1.row).2.elim fun A h => h.elim fun c h => ⟨A, c, by rw [h.1, List.length_append]; rfl⟩; have HO8 := Lib.hid h1; have HB8 := Lib.hid (h3.imp_right (fun h => h.trans (congrArg some (World.size_alloc w7 _)))); have HK8 := Lib.hid (Kept.grown (((Kept.refl (fun j => (Value.slice Au cc.length cu).ownBlock = some j) w7).alloc _).drew) h2 (fun k hk => .inl hk)); obtain ⟨l4, l5, l6⟩ := KS.out _ HK8.out; clear h1 h2 h3))
              all_goals
                have O9 := Lib.hid (HP.out w8 _ HO8.out HB8.out HK8.out)
                have hk9 := (HK8.out.mono (G := fun j => (Value.slice Au cc.length cu).ownBlock = some j ∨ j = b) (fun _ _ h => .inl h)).setCell (p := ⟨b, t, none⟩) (.inl (.inr rfl)) (.slice A8 (cc.length + 1) c8)
                have hlo : ∀ j, ((Value.slice Au cc.length cu).ownBlock = some j ∨ j = b) → w1.heap.size ≤ j ∧ j ≠ w2.heap.size := fun j hj => by
                  rcases hj with h | h
                  · exact ⟨(HF.out j h).1, (HF.out j h).2.1⟩
                  · rw [h]; exact ⟨hbb, HBW.out.1⟩
                have N9 := Lib.hid (N7.out.kept hk9 (fun h => (hlo _ h).2 rfl))
                have R9 := Lib.hid (R7.out.kept hk9 (fun h => by have := (hlo _ h).1; omega))
                have B9 := Lib.hid (B7.out.trans (hk9.below B7.out.size (fun j h => by have := (hlo j h).1; omega)))
                obtain ⟨_, hm0, hm1, _⟩ := N9.out.facts
                obtain ⟨_, hd0, hd1, hdf⟩ := R9.out.facts
                clear hk9 hlo l4 l5 l6 hn0 hn1 hc1 hf7
                generalize hW9 : w8.setCell ⟨b, t, none⟩ (.slice A8 (cc.length + 1) c8) = W9 at *
                clear hW9
                go_wp2_with fail
                obtain ⟨_, e0, e1, _⟩ := (put2_two R9.out (.int .i64 (ep + 1)) (.slice (some ⟨b, 0, none⟩) cs.length c2)).facts
                have HG2 := (O9.out.kept (put2_kept (Kept.refl (fun j => j = w.heap.size + 1) _) (.inl rfl) (.int .i64 (ep + 1)) (.slice (some ⟨b, 0, none⟩) cs.length c2)) (fun k hk => by omega)).grid
                exact bodyPost_ret (v := .tuple #[planV (ep + 1) (.slice (some ⟨b, 0, none⟩) cs.length c2), .nilIface]) (by simp [results, Tryd.results19, go_sem, e0, e1]) rfl (replR_ok HN.out HG2 (put2_below B9.out (by omega) _ _))
end Go.Proofs.YtjcingefdgmdkaaDoor
