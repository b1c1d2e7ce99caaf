/- The document's own Replace of plans. -/
import Derived.Test.YtjcingefdgmdkaaDoorPlI
namespace Go.Proofs.YtjcingefdgmdkaaDoor
open Go.RowKit Tide

/-- Where the first one stands that has fewer; -1: nowhere among the first k. -/
def homeI (cs ds : List (List Int)) (k : Nat) : Int := match homeN cs ds k with
  | none => -1
  | some i => (i : Int)
theorem homeI_some {cs ds : List (List Int)} {k i : Nat} (h : homeN cs ds k = some i) : homeI cs ds k = (i : Int) := by unfold homeI; rw [h]
theorem homeI_none {cs ds : List (List Int)} {k : Nat} (h : homeN cs ds k = none) : homeI cs ds k = -1 := by unfold homeI; rw [h]
/-- What the document's Replace answers. -/
def RepI (ep : Int) (cs : List (List Int)) (gl : List Int) (fresh : Int) (w : World) (e : Ending) (w' : World) : Prop :=
  ∃ v', e = .returned (.tuple #[planV (nextD ep cs gl fresh).2.1 v', .int .i64 ((nextD ep cs gl fresh).1 : Int)]) ∧ Grid w' w'.heap.size v' (nextD ep cs gl fresh).2.2 ∧ Below w.heap.size w w'
theorem repI_bad {ep : Int} {cs : List (List Int)} {gl : List Int} {fresh : Int} {w w' : World} (m : Nat) (z : Int) (hz : z = (m : Int)) (hN : nextD ep cs gl fresh = (m, 0, [])) (hb : Below w.heap.size w w') :
    RepI ep cs gl fresh w (.returned (.tuple #[planV 0 (.slice none 0 0), .int .i64 z])) w' :=
  ⟨_, by rw [hN, hz], by rw [hN]; exact grid_nil _ _, hb⟩
theorem repI_ok {ep : Int} {cs ds : List (List Int)} {gl : List Int} {fresh ep' : Int} {w w' : World} {v' : Value} (hN : nextD ep cs gl fresh = (0, ep', ds)) (hg : Grid w' w'.heap.size v' ds) (hb : Below w.heap.size w w') :
    RepI ep cs gl fresh w (.returned (.tuple #[planV ep' v', .int .i64 0])) w' :=
  ⟨v', by rw [hN]; rfl, by rw [hN]; exact hg, hb⟩
/-- A row comes to the others. -/
theorem GridO.push {w w' : World} {base lo : Nat} {v v' u : Value} {vs : List Value} {cs : List (List Int)} {l : List Int} (h : GridO w base v vs cs) (ho : w'.ownsRow base 25 1 v' (cs.length + 1) (vs ++ [u])) (hk : Kept (fun j => v.ownBlock = some j) w w')
    (hu : Own w base u l) (hlo : ∀ j, u.ownBlock = some j → lo ≤ j) (hvs : ∀ (i : Nat) (x : Value) (j : Nat), vs[i]? = some x → x.ownBlock = some j → j < lo) : GridO w' base v' (vs ++ [u]) (cs ++ [l]) := by
  have hkeep : ∀ {x : Value} {m : List Int}, Own w base x m → Own w' base x m := fun {x m} hx => hk.own hx (fun j hj hf => ownV_ne hx h.outer (by decide) j hj hf)
  refine ⟨by rw [List.length_append]; exact ho, fun i x m hx hm => ?_, fun i j x x' k hij hx hx' hk' => ?_⟩
  · by_cases hi : i < vs.length
    · rw [List.getElem?_append_left hi] at hx
      rw [List.getElem?_append_left (by rw [← h.len]; exact hi)] at hm
      exact hkeep (h.rows i x m hx hm)
    · have hi2 : i = vs.length := by
        have := (List.getElem?_eq_some_iff.1 hx).1
        rw [List.length_append, List.length_singleton] at this; omega
      subst hi2
      rw [List.getElem?_append_right (Nat.le_refl _), Nat.sub_self] at hx
      rw [h.len, List.getElem?_append_right (Nat.le_refl _), Nat.sub_self] at hm
      simp at hx hm
      subst hx hm
      exact hkeep hu
  · by_cases hj : j < vs.length
    · rw [List.getElem?_append_left hj] at hx'
      rw [List.getElem?_append_left (by omega)] at hx
      exact h.apart i j x x' k hij hx hx' hk'
    · have hj2 : j = vs.length := by
        have := (List.getElem?_eq_some_iff.1 hx').1
        rw [List.length_append, List.length_singleton] at this; omega
      subst hj2
      rw [List.getElem?_append_right (Nat.le_refl _), Nat.sub_self] at hx'
      rw [List.getElem?_append_left hij] at hx
      simp at hx'
      subst hx'
      intro h2
      have := hlo k h2
      have := hvs i x k hx hk'
      omega

set_option maxRecDepth 100000 in
set_option maxHeartbeats 8000000 in
theorem rreplace_any (ep : Int) (cs : List (List Int)) (gl : List Int) (fresh : Int) (v gv : Value) (B : Nat) (w : World) (hv : Grid w B v cs) (hB : B ≤ w.heap.size) (hg : Row w B gv (int64s gl)) :
    Calls Tryd.prog 20 #[planV ep v, gv, .int .i64 fresh] w (RepI ep cs gl fresh w) := by
  obtain ⟨hgl, Ag, cg, rfl, _⟩ := row_ints hg
  obtain ⟨_, Av, cv, rfl, hcells⟩ := hv.form
  have B0 := Lib.hid (((Below.refl w.heap.size w).alloc (Nat.le_refl _) (.cells #[.int .i64 ep, .slice Av cs.length cv] 28)).alloc (by simp) (.cells #[.int .i64 0, .slice none 0 0] 28))
  have P0 := Lib.hid ((Two.new w 28 (.int .i64 ep) (.slice Av cs.length cv)).alloc (.cells #[.int .i64 0, .slice none 0 0] 28))
  have R0 := Lib.hid (show Two _ (w.heap.size + 1) 28 _ _ from by
    have := Two.new (w.alloc (.cells #[.int .i64 ep, .slice Av cs.length cv] 28)) 28 (.int .i64 0) (.slice none 0 0)
    rwa [World.size_alloc] at this)
  have CR := Lib.hid (fun W (h : Below w.heap.size w W) => rright_any ep cs _ B W (hv.below (h.mono hB)) (Nat.le_trans hB h.size))
  have CU := Lib.hid (fun (h : rightB ep cs = true) W (hb : Below w.heap.size w W) => runits_any ep cs _ B W (hv.below (hb.mono hB)) (Nat.le_trans hB hb.size) h)
  have CIn := Lib.hid (fun (x : Int) W (h : Below w.heap.size w W) => in_any x gl _ B W (Row.keep hg (below_cells (h.mono hB))))
  have HC := Lib.hid hcells
  have HBs := Lib.hid hB
  clear hv hB hg hcells
  cases hr : rightB ep cs with
  | false =>
    rw [hr] at CR
    have HN := Lib.hid (next_form (gl := gl) (fresh := fresh) hr)
    clear hr CU
    go_enter Tryd.func20, Tryd.ntmps20
    go_wp2_with fail
    refine (CR.out _ B0.out).mono ?_
    rintro e w1 ⟨rfl, hb⟩
    have B1 := Lib.hid (B0.out.trans (hb.mono B0.out.size))
    have R1 := Lib.hid (R0.out.below hb R0.out.lt)
    obtain ⟨_, hd0, hd1, hdf⟩ := R1.out.facts
    clear hb
    go_wp2_with fail
    obtain ⟨_, e0, e1, _⟩ := (put2_two R1.out (.int .i64 0) (.slice none 0 0)).facts
    exact bodyPost_ret (v := .tuple #[planV 0 (.slice none 0 0), .int .i64 4]) (by simp [results, Tryd.results20, go_sem, e0, e1]) rfl (repI_bad 4 4 rfl HN.out (put2_below B1.out (by omega) _ _))
  | true =>
    rw [hr] at CR
    have HR := Lib.hid hr
    clear hr
    cases q0 : (ep == 1073741824) with
    | true =>
      have HN := Lib.hid (next_epoch (gl := gl) (fresh := fresh) HR.out (by simpa using q0))
      clear CU
      go_enter Tryd.func20, Tryd.ntmps20
      go_wp2_with fail
      refine (CR.out _ B0.out).mono ?_
      rintro e w1 ⟨rfl, hb⟩
      have B1 := Lib.hid (B0.out.trans (hb.mono B0.out.size))
      have R1 := Lib.hid (R0.out.below hb R0.out.lt)
      obtain ⟨_, hp0, hp1, _⟩ := (P0.out.below hb P0.out.lt).facts
      obtain ⟨_, hd0, hd1, hdf⟩ := R1.out.facts
      clear hb
      go_wp2_with fail
      obtain ⟨_, e0, e1, _⟩ := (put2_two R1.out (.int .i64 0) (.slice none 0 0)).facts
      exact bodyPost_ret (v := .tuple #[planV 0 (.slice none 0 0), .int .i64 14]) (by simp [results, Tryd.results20, go_sem, e0, e1]) rfl (repI_bad 14 14 rfl HN.out (put2_below B1.out (by omega) _ _))
    | false =>
      have hep : ep ≠ 1073741824 := by simpa using q0
      have hepb := (right_parts HR.out).2.1
      have hep0 := (right_parts HR.out).1
      have hn3 := (right_parts HR.out).2.2.2.1
      have hn1 := (right_parts HR.out).2.2.1
      obtain ⟨ds, hds⟩ : ∃ ds, cs.map (delL gl) = ds := ⟨_, rfl⟩
      have HD := Lib.hid hds
      have HDl := Lib.hid (show ds.length = cs.length by rw [← hds, List.length_map])
      have HDk := Lib.hid (show ∀ (k : Nat) (hk : k < cs.length), ds[k]? = some (delL gl cs[k]) from fun k hk => by rw [← hds, List.getElem?_map, List.getElem?_eq_getElem hk]; rfl)
      have HL3 := Lib.hid (show ∀ c ∈ cs, c.length ≤ 3 from fun c hc => ((right_parts HR.out).2.2.2.2.1 c hc).2)
      clear hds
      go_enter Tryd.func20, Tryd.ntmps20
      go_wp2_with fail
      refine (CR.out _ B0.out).mono ?_
      rintro e w1 ⟨rfl, hb⟩
      have hd3 := (Below.refl w1.heap.size w1).alloc (Nat.le_refl _) (.cells #[.int .i64 (ep + 1), .slice none 0 0] 28)
      have N3 := Lib.hid (Two.new w1 28 (.int .i64 (ep + 1)) (.slice none 0 0))
      have B3 := Lib.hid ((B0.out.trans (hb.mono B0.out.size)).trans (hd3.mono (Nat.le_trans B0.out.size hb.size)))
      have R3 := Lib.hid ((R0.out.below hb R0.out.lt).below hd3 (by have := (R0.out.below hb R0.out.lt).lt; omega))
      have P3 := Lib.hid ((P0.out.below hb P0.out.lt).below hd3 (by have := (P0.out.below hb P0.out.lt).lt; omega))
      have hs1 : w.heap.size + 2 ≤ w1.heap.size := (R0.out.below hb R0.out.lt).lt
      obtain ⟨_, hp0, hp1, _⟩ := (P0.out.below hb P0.out.lt).facts
      have O3 := Lib.hid (show GridO (w1.alloc (.cells #[.int .i64 (ep + 1), .slice none 0 0] 28)) (w1.heap.size + 1) (.slice none 0 0) [] (ds.take 0) from ⟨⟨rfl, .inl ⟨rfl, rfl⟩⟩, fun i u c hu => by simp at hu, fun i j u u' k _ hu => by simp at hu⟩)
      clear hb hd3 CR P0 R0 B0
      go_wp2_with fail
      clear hp0 hp1
      go_loopw [9, 10, 31] (fun h m i wr => ∃ (k : Nat) (Ao : Option Addr) (co : Nat) (vs : List Value), h = .int .i64 (homeI cs ds k) ∧ m = .int .i64 (leastN ds k : Int) ∧ i = .int .i64 k ∧ k ≤ cs.length ∧ Hid (GridO wr (w1.heap.size + 1) (.slice Ao k co) vs (ds.take k)) ∧
        Hid (Two wr w1.heap.size 28 (.int .i64 (ep + 1)) (.slice Ao k co)) ∧ Hid (Two wr w.heap.size 28 (.int .i64 ep) (.slice Av cs.length cv)) ∧ Hid (Two wr (w.heap.size + 1) 28 (.int .i64 0) (.slice none 0 0)) ∧ Hid (¬ [] ∈ ds.take k) ∧ Hid (Below w.heap.size w wr)) (fun _ _ i _ => cs.length - (intOf i).toNat)
      case atStart => exact ⟨0, none, 0, [], rfl, rfl, rfl, Nat.zero_le _, O3, N3, P3, R3, Lib.hid (by simp), B3⟩
      case round =>
        clear O3 N3 P3 R3 B3
        obtain ⟨k, Ao, co, vs, rfl, rfl, rfl, hk, hO, hN, hP, hR, hE, hBr⟩ := hrel
        by_cases hlt : k < cs.length
        · obtain ⟨b, o, u, rfl, hbl, hcu, hr⟩ := HC.out k hlt
          have hbw : b < w.heap.size := Nat.lt_of_lt_of_le hbl HBs.out
          have hc1 := (hBr.out.cell (p := ⟨b, o + k, none⟩) hbw).trans hcu
          have HRow := Lib.hid (fun W (h : Below w.heap.size w W) => (show Row W B u (int64s cs[k]) from Row.keep hr (below_cells (h.mono HBs.out))))
          obtain ⟨_, Au, cu, rfl, huc⟩ := row_ints hr
          have HU := Lib.hid huc
          have i1 : (k : Int) < (cs.length : Int) := by omega
          have HDk2 := Lib.hid (HDk.out k hlt)
          have hl3 := HL3.out _ (List.getElem_mem hlt)
          obtain ⟨cc, hcc⟩ : ∃ cc, cs[k] = cc := ⟨_, rfl⟩
          have HCC := Lib.hid (show cs[k]? = some cc from by rw [List.getElem?_eq_getElem hlt, hcc])
          rw [hcc] at hl3 HDk2 HU HRow hc1
          clear hr huc hcu hcc
          obtain ⟨S, hS⟩ : ∃ S, S = wr.heap.size := ⟨_, rfl⟩
          have HS := Lib.hid hS
          have OL0 := Lib.hid (show Own (wr.alloc (.cells #[] 3)) S (.slice (some ⟨wr.heap.size, 0, none⟩) 0 0) [] from by rw [hS]; exact Own.new wr wr.heap.size (Nat.le_refl _) wr.heap.size rfl)
          have BL0 := Lib.hid (show Below S wr (wr.alloc (.cells #[] 3)) from by rw [hS]; exact (Below.refl wr.heap.size wr).alloc (Nat.le_refl _) (.cells #[] 3))
          have HVS := Lib.hid (show ∀ (i : Nat) (x : Value) (j : Nat), vs[i]? = some x → x.ownBlock = some j → j < S from fun i x j hx hj => by
            rw [hS]
            have hi : i < (ds.take k).length := by rw [← hO.out.len]; exact (List.getElem?_eq_some_iff.1 hx).1
            exact (World.ownsRow.lt (hO.out.rows i x _ hx (List.getElem?_eq_getElem hi)) j hj).2)
          have HSz := Lib.hid (show w1.heap.size + 1 ≤ S from by rw [hS]; exact hN.out.lt)
          have HWS := Lib.hid (show w.heap.size ≤ S from by rw [hS]; exact hBr.out.size)
          clear hS
          go_wp2_with fail
          clear hc1
          go_loopw [13, 39] (fun lv i wr2 => ∃ (j : Nat) (Al : Option Addr) (cl : Nat), lv = .slice Al (delL gl (cc.take j)).length cl ∧ i = .int .i64 j ∧ j ≤ cc.length ∧ Hid (Own wr2 S (.slice Al (delL gl (cc.take j)).length cl) (delL gl (cc.take j))) ∧ Hid (Below S wr wr2) ∧ Hid (S ≤ wr2.heap.size)) (fun _ i _ => cc.length - (intOf i).toNat)
          case atStart => exact ⟨0, _, _, rfl, rfl, Nat.zero_le _, OL0, BL0, Lib.hid (by rw [HS.out]; simp)⟩
          case round =>
            clear OL0 BL0
            obtain ⟨j, Al, cl, rfl, rfl, hj, hOl, hBl, hSl⟩ := hrel
            by_cases hjl : j < cc.length
            · obtain ⟨b2, o2, rfl, hb2, hcu2⟩ := HU.out j hjl
              have hBw := hBr.out.trans (hBl.out.mono HWS.out)
              have hc2 := (hBw.cell (p := ⟨b2, o2 + j, none⟩) (Nat.lt_of_lt_of_le hb2 HBs.out)).trans hcu2
              have CX := Lib.hid (CIn.out cc[j] _ hBw)
              have HTk := Lib.hid (take_one cc j hjl)
              have i2 : (j : Int) < (cc.length : Int) := by omega
              have HLn := Lib.hid (show (delL gl (cc.take j)).length ≤ 1000000 from by have := delL_len gl (cc.take j); rw [List.length_take] at this; omega)
              clear hcu2 hBw
              generalize cc[j] = x at *
              by_cases hx : x ∈ gl
              · rw [decide_eq_true hx] at CX
                have HT := Lib.hid (show delL gl (cc.take (j + 1)) = delL gl (cc.take j) from by rw [HTk.out, delL_snoc, if_pos hx, List.append_nil])
                clear hx
                go_wp2_with fail
                refine CX.out.mono ?_
                rintro e w' ⟨rfl, rfl⟩
                go_wp2_with fail
                go_roundw
                case rel => exact ⟨j + 1, Al, cl, by rw [HT.out], by go_num, by omega, Lib.hid (by rw [HT.out]; exact hOl.out), hBl, hSl⟩
                case measure => simp [intOf]; omega
              · rw [decide_eq_false hx] at CX
                have HT := Lib.hid (show delL gl (cc.take (j + 1)) = delL gl (cc.take j) ++ [x] from by rw [HTk.out, delL_snoc, if_neg hx])
                clear hx
                go_wp2_with fail
                refine CX.out.mono ?_
                rintro e w' ⟨rfl, rfl⟩
                go_wp2_with (at_builtin; refine wpList_push rfl (.tmp 47) (.tmp 49) rfl x rfl rfl hOl.out HLn.out hSl.out ?_)
                intro v9 w9 h1 h2 h3
                have O9 := Lib.hid (show Own w9 S v9 (delL gl (cc.take (j + 1))) from by rw [HT.out]; exact h1)
                have B9 := Lib.hid (hBl.out.trans h3)
                have h3s := h3.size
                obtain ⟨Al9, cl9, rfl⟩ : ∃ Al9 cl9, v9 = .slice Al9 (delL gl (cc.take (j + 1))).length cl9 := by
                  obtain ⟨_, A, c, e, _⟩ := row_ints O9.out.row
                  exact ⟨A, c, e⟩
                clear h1 h2 h3
                go_wp2_with fail
                go_roundw
                case rel => exact ⟨j + 1, Al9, cl9, rfl, by go_num, by omega, O9, B9, Lib.hid (Nat.le_trans hSl.out h3s)⟩
                case measure => simp [intOf]; omega
            · have HE := Lib.hid (show cc.take j = cc from List.take_of_length_le (by omega))
              rw [HE.out] at hOl ⊢
              have hBl2 := hBl.out
              rw [HS.out] at hBl2
              have O4 := Lib.hid (hO.out.below hBl2)
              have N4 := Lib.hid (hN.out.below hBl2 hN.out.lt)
              have P4 := Lib.hid (hP.out.below hBl2 hP.out.lt)
              have R4 := Lib.hid (hR.out.below hBl2 hR.out.lt)
              have B4 := Lib.hid (hBr.out.trans (hBl2.mono hBr.out.size))
              have hpl : (delL gl cc).length ≤ 3 := Nat.le_trans (delL_len gl cc) hl3
              clear hBl2 HE hN hP hR hBr hBl HU HRow CIn
              generalize delL gl cc = L at *
              by_cases hL : L = []
              · have HN := Lib.hid (next_none (fresh := fresh) HR.out hep (by rw [HD.out, ← hL]; exact List.mem_of_getElem? HDk2.out))
                subst hL
                obtain ⟨_, hd0, hd1, hdf⟩ := R4.out.facts
                go_wp2_with fail
                obtain ⟨_, e0, e1, _⟩ := (put2_two R4.out (.int .i64 0) (.slice none 0 0)).facts
                exact bodyPost_ret (v := .tuple #[planV 0 (.slice none 0 0), .int .i64 16]) (by simp [results, Tryd.results20, go_sem, e0, e1]) rfl (repI_bad 16 16 rfl HN.out (put2_below B4.out (by omega) _ _))
              · have hq : ((L.length : Int) == 0) = false := beq_eq_false_iff_ne.2 (by intro e; exact hL (List.length_eq_zero_iff.1 (by omega)))
                have hkd : k < ds.length := by rw [HDl.out]; exact hlt
                have HTk2 := Lib.hid (show ds.take (k + 1) = ds.take k ++ [L] from by
                  rw [List.take_succ_eq_append_getElem hkd]
                  have h1 := HDk2.out
                  rw [List.getElem?_eq_getElem hkd] at h1
                  injection h1 with h1
                  rw [h1])
                have HE2 := Lib.hid (show ¬ [] ∈ ds.take (k + 1) from by
                  rw [HTk2.out]
                  intro h
                  rcases List.mem_append.1 h with h | h
                  · exact hE.out h
                  · simp at h; exact hL h)
                obtain ⟨i0, hi, hz0, hz1, hz2⟩ := info_parts infoRow
                have HI := Lib.hid hi
                have hlk : (ds.take k).length = k := by rw [List.length_take]; omega
                have hout := O4.out.outer
                rw [hlk] at hout
                have HOut := Lib.hid hout
                have hne2 : ∀ j, (Value.slice Ao k co).ownBlock = some j → w1.heap.size + 1 ≤ j := fun j hj => (World.ownsRow.lt hout j hj).1
                have HN2 := Lib.hid hne2
                have HHome := Lib.hid (show (decide (homeI cs ds k < 0) = false ∧ homeI cs ds (k + 1) = homeI cs ds k) ∨ (decide (homeI cs ds k < 0) = true ∧ decide ((L.length : Int) < (cc.length : Int)) = true ∧ homeI cs ds (k + 1) = k) ∨ (decide (homeI cs ds k < 0) = true ∧ decide ((L.length : Int) < (cc.length : Int)) = false ∧ homeI cs ds (k + 1) = homeI cs ds k) from by
                  have g1 : (ds.getD k []).length = L.length := by rw [List.getD_eq_getElem?_getD, HDk2.out]; rfl
                  have g2 : (cs.getD k []).length = cc.length := by rw [List.getD_eq_getElem?_getD, HCC.out]; rfl
                  cases e : homeN cs ds k with
                  | some i =>
                    exact .inl ⟨by rw [homeI_some e]; exact decide_eq_false (by omega), by rw [homeI_some e, homeI_some (home_stays e 1)]⟩
                  | none =>
                    have z : homeI cs ds k = -1 := homeI_none e
                    by_cases hpq : L.length < cc.length
                    · exact .inr (.inl ⟨by rw [z]; rfl, decide_eq_true (by omega), by rw [homeI_some (home_some e (by rw [g1, g2]; exact hpq))]⟩)
                    · exact .inr (.inr ⟨by rw [z]; rfl, decide_eq_false (by omega), by rw [z, homeI_none (home_none e (by rw [g1, g2]; exact hpq))]⟩))
                obtain ⟨f, hf⟩ : ∃ f, leastN ds k = f := ⟨_, rfl⟩
                have hfk : f ≤ k := by
                  rcases Nat.eq_zero_or_pos k with h0 | h0
                  · subst h0; rw [← hf]; exact Nat.le_refl _
                  · obtain ⟨m, rfl⟩ : ∃ m, k = m + 1 := ⟨k - 1, by omega⟩
                    have := least_bd ds m; omega
                have hfd : f < ds.length := by omega
                have HLeast := Lib.hid (show (decide ((L.length : Int) < (ds[f].length : Int)) = true ∧ leastN ds (k + 1) = k) ∨ (decide ((L.length : Int) < (ds[f].length : Int)) = false ∧ leastN ds (k + 1) = f) from by
                  have g1 : (ds.getD k []).length = L.length := by rw [List.getD_eq_getElem?_getD, HDk2.out]; rfl
                  have g2 : (ds.getD f []).length = ds[f].length := by rw [List.getD_eq_getElem?_getD, List.getElem?_eq_getElem hfd]; rfl
                  by_cases hpq : L.length < ds[f].length
                  · exact .inl ⟨decide_eq_true (by omega), by rw [leastN, hf, g1, g2, if_pos hpq]⟩
                  · exact .inr ⟨decide_eq_false (by omega), by rw [leastN, hf, g1, g2, if_neg hpq]⟩)
                have HFr := Lib.hid (show (ds.take (k + 1))[f]? = some ds[f] from by rw [List.getElem?_take_of_lt (by omega), List.getElem?_eq_getElem hfd])
                obtain ⟨_, hn0, hn1, hnf⟩ := N4.out.facts
                have HOl := hOl
                rw [hf]
                clear hi hout hne2 hL hf hE
                generalize ds[f] = df at *
                go_wp2_with (at_builtin; refine wpList_append_row _ rfl (.tmp 57) (.tmp 59) _ rfl (w1.heap.size + 1) 25 i0 (.slice none 0 0) 24 Tryd.underlying22 HI.out hz0 hz1 hz2 rfl (.slice Ao k co) k vs rfl ?c1 (wr.heap.size + 1) _ [.slice Al L.length cl] rfl ?c2 (fun u hu => by simp at hu; subst hu; rfl) ?d1 ?d2 ?d3 ?_)
                case c1 => exact own_below HOut.out ((Below.refl _ _).alloc (Nat.le_refl _) _)
                case c2 => exact Row.new wr _ #[.slice Al L.length cl] (0, 0) _ 1 rfl rfl (by omega)
                case d1 => simp; unfold maxLen; omega
                case d2 => simp; omega
                case d3 => have := N4.out.lt; simp; omega
                intro v9 w9 h1 h2 h3
                obtain ⟨b9, c9, rfl, hb9⟩ := ownV_form h1 (by simp)
                have hk9 := Kept.grown ((Kept.refl (fun j => (Value.slice Ao k co).ownBlock = some j) wr).alloc (.cells #[.slice Al L.length cl] 25)) h2 (fun k hk => .inl hk)
                have O9 := O4.out.push (v' := .slice (some ⟨b9, 0, none⟩) (k + 1) c9) (by rw [hlk]; exact h1) hk9 (own_later hOl.out HSz.out) (fun j hj => (World.ownsRow.lt hOl.out j hj).1) HVS.out
                rw [← HTk2.out] at O9
                have N9 := N4.out.kept hk9 (two_apart N4.out HOut.out (by decide))
                have P9 := P4.out.kept hk9 (fun h => by have := HN2.out _ h; omega)
                have R9 := R4.out.kept hk9 (fun h => by have := HN2.out _ h; omega)
                have B9 := B4.out.trans (hk9.below B4.out.size (fun j hj => by have := HN2.out j hj; omega))
                have hbn : b9 ≠ w1.heap.size := by omega
                have hsk := (Kept.refl (fun j => j = w1.heap.size) w9).setCell (p := ⟨w1.heap.size, 1, none⟩) (.inl rfl) (.slice (some ⟨b9, 0, none⟩) (k + 1) c9)
                have O10 := Lib.hid (O9.kept hsk (fun j hj => by omega))
                have N10 := Lib.hid (N9.setB (.slice (some ⟨b9, 0, none⟩) (k + 1) c9))
                have P10 := Lib.hid (P9.other (g' := w1.heap.size) (by omega) 1 (.slice (some ⟨b9, 0, none⟩) (k + 1) c9))
                have R10 := Lib.hid (R9.other (g' := w1.heap.size) (by omega) 1 (.slice (some ⟨b9, 0, none⟩) (k + 1) c9))
                have B10 := Lib.hid (B9.setCell (p := ⟨w1.heap.size, 1, none⟩) (by show _ ≤ w1.heap.size; omega) (.slice (some ⟨b9, 0, none⟩) (k + 1) c9))
                have hvl : f < (vs ++ [Value.slice Al L.length cl]).length := by
                  have := O9.len
                  have h4 := (List.getElem?_eq_some_iff.1 HFr.out).1
                  omega
                obtain ⟨uf, huf⟩ : ∃ uf, (vs ++ [Value.slice Al L.length cl])[f]? = some uf := ⟨_, List.getElem?_eq_getElem hvl⟩
                obtain ⟨_, Af, cf, rfl, _⟩ := row_ints (O9.rows f uf _ huf HFr.out).row
                have hcf := ownV_cell h1 f _ huf
                obtain ⟨_, hm0, hm1, hmf⟩ := N9.facts
                have i5 : (f : Int) < (k : Int) + 1 := by omega
                have hhome := HHome.out
                have hleast := HLeast.out
                generalize hho : homeI cs ds k = ho at *
                clear hho hn0 hn1 hnf h2 h3 hk9 hsk O9 N9 P9 R9 B9 h1 hvl huf
                rcases hhome with ⟨z0, HH⟩ | ⟨z0, z1, HH⟩ | ⟨z0, z1, HH⟩ <;> rcases hleast with ⟨z2, HL⟩ | ⟨z2, HL⟩
                all_goals
                  have HH := Lib.hid HH
                  have HL := Lib.hid HL
                  try simp only [decide_eq_true_eq, decide_eq_false_iff_not, Int.ofNat_lt] at z1
                  simp only [decide_eq_true_eq, decide_eq_false_iff_not, Int.ofNat_lt] at z2
                  go_wp2_with fail
                  go_roundw
                  case rel => exact ⟨k + 1, some ⟨b9, 0, none⟩, c9, vs ++ [.slice Al L.length cl], by rw [HH.out] <;> rfl, by rw [HL.out] <;> rfl, by go_num, by omega, O10, N10, P10, R10, HE2, B10⟩
                  case measure => simp [intOf]; omega
        · have hkn : k = cs.length := by omega
          have HTo := Lib.hid (show (decide (homeI cs ds k < 0) = false ∧ homeI cs ds k = (toN cs ds : Int)) ∨ (decide (homeI cs ds k < 0) = true ∧ leastN ds k = toN cs ds) from by
            have hkd : ds.length = k := by rw [HDl.out, hkn]
            cases e : homeN cs ds k with
            | some i =>
              have : toN cs ds = i := by unfold toN; rw [hkd, e]; rfl
              exact .inl ⟨by rw [homeI_some e]; exact decide_eq_false (by omega), by rw [homeI_some e, this]⟩
            | none => exact .inr ⟨by rw [homeI_none e]; rfl, by rw [to_least (by rw [hkd]; exact e), hkd]⟩)
          have hdk : ds.take k = ds := List.take_of_length_le (by rw [HDl.out]; omega)
          rw [hdk] at hO hE
          have HM := Lib.hid (show ¬ [] ∈ cs.map (delL gl) by rw [HD.out]; exact hE.out)
          subst hkn
          obtain ⟨_, hn0, hn1, _⟩ := hN.out.facts
          clear hdk hE HDk HL3 HC CIn
          cases q1 : decide (fresh < 0) with
          | true =>
            have HN := Lib.hid (show nextD ep cs gl fresh = (0, ep + 1, ds) by rw [← HD.out]; exact next_old HR.out hep HM.out (by simpa using q1))
            obtain ⟨_, hd0, hd1, hdf⟩ := hR.out.facts
            go_wp2_with fail
            obtain ⟨_, e0, e1, _⟩ := (put2_two hR.out (.int .i64 (ep + 1)) (.slice Ao cs.length co)).facts
            have HG2 := (hO.out.kept (put2_kept (Kept.refl (fun j => j = w.heap.size + 1) _) (.inl rfl) (.int .i64 (ep + 1)) (.slice Ao cs.length co)) (fun k hk => by omega)).grid
            exact bodyPost_ret (v := .tuple #[planV (ep + 1) (.slice Ao cs.length co), .int .i64 0]) (by simp [results, Tryd.results20, go_sem, e0, e1]) rfl (repI_ok HN.out HG2 (put2_below hBr.out (by omega) _ _))
          | false =>
          cases q2 : decide (11 < fresh) with
          | true =>
            have HN := Lib.hid (next_range HR.out hep HM.out (by simpa using q1) (by simpa using q2))
            obtain ⟨_, hd0, hd1, hdf⟩ := hR.out.facts
            go_wp2_with fail
            obtain ⟨_, e0, e1, _⟩ := (put2_two hR.out (.int .i64 0) (.slice none 0 0)).facts
            exact bodyPost_ret (v := .tuple #[planV 0 (.slice none 0 0), .int .i64 1]) (by simp [results, Tryd.results20, go_sem, e0, e1]) rfl (repI_bad 1 1 rfl HN.out (put2_below hBr.out (by omega) _ _))
          | false =>
            obtain ⟨_, hp0, hp1, _⟩ := hP.out.facts
            go_wp2_with fail
            refine (CU.out HR.out _ hBr.out).mono ?_
            rintro e w5 ⟨v5, rfl, ho, hb⟩
            have B5 := Lib.hid (hBr.out.trans (hb.mono hBr.out.size))
            have R5 := Lib.hid (hR.out.below hb hR.out.lt)
            have N5 := Lib.hid (hN.out.below hb hN.out.lt)
            have O5 := Lib.hid (hO.out.below hb)
            have CC := Lib.hid (in_any fresh _ _ _ _ ho.row)
            have HMem := Lib.hid (units_mem (fresh := fresh) HR.out)
            generalize unitsL cs = ul at *
            clear hb ho CU hR hP hN hO hp0 hp1 hn0 hn1
            go_wp2_with fail
            refine CC.out.mono ?_
            rintro e w6 ⟨rfl, rfl⟩
            clear CC
            by_cases hm : fresh ∈ ul
            · have HN := Lib.hid (next_state HR.out hep HM.out (by simpa using q1) (by simpa using q2) (HMem.out.1 hm))
              rw [decide_eq_true hm]
              obtain ⟨_, hd0, hd1, hdf⟩ := R5.out.facts
              clear hm
              go_wp2_with fail
              obtain ⟨_, e0, e1, _⟩ := (put2_two R5.out (.int .i64 0) (.slice none 0 0)).facts
              exact bodyPost_ret (v := .tuple #[planV 0 (.slice none 0 0), .int .i64 17]) (by simp [results, Tryd.results20, go_sem, e0, e1]) rfl (repI_bad 17 17 rfl HN.out (put2_below B5.out (by omega) _ _))
            · rw [decide_eq_false hm]
              have HM2 := Lib.hid (show ¬ fresh ∈ cs.flatten from fun h => hm (HMem.out.2 h))
              clear hm HMem
              have HX := Lib.hid (fun (h6 : 3 ≤ (ds.getD (toN cs ds) []).length) => next_full (gl := gl) (fresh := fresh) HR.out hep HM.out (by simpa using q1) (by simpa using q2) HM2.out HD.out.symm h6)
              have HY := Lib.hid (fun (h6 : ¬ 3 ≤ (ds.getD (toN cs ds) []).length) => next_new (gl := gl) (fresh := fresh) HR.out hep HM.out (by simpa using q1) (by simpa using q2) HM2.out HD.out.symm h6)
              have ht := to_lt cs (ds := ds) (by rw [HDl.out]; omega)
              have h3 : (ds.getD (toN cs ds) []).length ≤ 3 := by
                rw [List.getD_eq_getElem?_getD, List.getElem?_eq_getElem ht, Option.getD_some]
                obtain ⟨c, hc, he⟩ := List.mem_map.1 (by rw [HD.out]; exact List.getElem_mem ht)
                rw [← he]
                exact Nat.le_trans (delL_len gl c) ((right_parts HR.out).2.2.2.2.1 c hc).2
              have hout := O5.out.outer
              rw [HDl.out] at hout
              obtain ⟨b, c, hv2, hbb⟩ := ownV_form hout (by omega)
              injection hv2 with e1 e2 e3
              subst e1 e3
              have hdt : ds[toN cs ds]? = some (ds.getD (toN cs ds) []) := by rw [List.getD_eq_getElem?_getD, List.getElem?_eq_getElem ht]; rfl
              obtain ⟨u, hu⟩ : ∃ u, vs[toN cs ds]? = some u := ⟨_, List.getElem?_eq_getElem (by rw [ownV_len hout]; have := HDl.out; omega)⟩
              have hown := O5.out.rows _ u _ hu hdt
              obtain ⟨_, Au, cu, rfl, _⟩ := row_ints hown.row
              have hc1 := ownV_cell hout _ _ hu
              have i1 : (toN cs ds : Int) < (cs.length : Int) := by have := HDl.out; omega
              obtain ⟨_, hn0, hn1, _⟩ := N5.out.facts
              have hto := HTo.out
              clear HTo
              generalize ds.getD (toN cs ds) [] = cc at *
              generalize toN cs ds = t at *
              rcases hto with ⟨z0, zt⟩ | ⟨z0, zt⟩
              · rw [zt] at z0 ⊢
                by_cases q3 : 3 ≤ cc.length
                · have HN := Lib.hid (HX.out q3)
                  have q4 : (3 : Int) ≤ (cc.length : Int) := by omega
                  obtain ⟨_, hd0, hd1, hdf⟩ := R5.out.facts
                  clear q3
                  go_wp2_with fail
                  obtain ⟨_, e0, e1, _⟩ := (put2_two R5.out (.int .i64 0) (.slice none 0 0)).facts
                  exact bodyPost_ret (v := .tuple #[planV 0 (.slice none 0 0), .int .i64 13]) (by simp [results, Tryd.results20, go_sem, e0, e1]) rfl (repI_bad 13 13 rfl HN.out (put2_below B5.out (by omega) _ _))
                · have HN := Lib.hid (HY.out q3)
                  have q4 : ¬ (3 : Int) ≤ (cc.length : Int) := by omega
                  clear q3
                  have HOw := Lib.hid (fun W (hb : Below w5.heap.size w5 W) => (show Own W (w1.heap.size + 1) (.slice Au cc.length cu) cc from own_below hown hb))
                  have HF := Lib.hid (show ∀ j, (Value.slice Au cc.length cu).ownBlock = some j → w1.heap.size + 1 ≤ j ∧ j ≠ b from fun j hj => ⟨(World.ownsRow.lt hown j hj).1, fun e => ownV_ne hown hout (by decide) j hj (by rw [e]; rfl)⟩)
                  have KS := Lib.hid (show ∀ W : World, Kept (fun j => (Value.slice Au cc.length cu).ownBlock = some j) w5 W → (W.cell? ⟨w1.heap.size, 1, none⟩ = some (.slice (some ⟨b, 0, none⟩) cs.length co) ∧ W.cell? ⟨b, t, none⟩ = some (.slice Au cc.length cu) ∧ W.frozen? ⟨b, t, none⟩ = false) from fun W hk =>
                    have ho := hk.own hout (fun j hj hf => (HF.out j hf).2 (by injection hj with hj; exact hj.symm))
                    ⟨(N5.out.kept hk (fun hf => by have := (HF.out _ hf).1; omega)).facts.2.2.1, ownV_cell ho t _ hu, ownV_free ho t⟩)
                  have HP := Lib.hid (fun (w' : World) (u' : Value) (ho : Own w' (w1.heap.size + 1) u' (cc ++ [fresh])) (hbk : u'.ownBlock = (Value.slice Au cc.length cu).ownBlock ∨ u'.ownBlock = some (w5.heap.size + 1)) (hk : Kept (fun j => (Value.slice Au cc.length cu).ownBlock = some j) w5 w') =>
                    O5.out.put hu hk ho (fun j hj => hbk.elim (fun h => .inl (by rw [← h]; exact hj)) (fun h => .inr (by rw [h] at hj; injection hj with hj; omega))))
                  have hbl := (World.ownsRow.lt hout b rfl).2
                  have hs7 : w1.heap.size + 1 ≤ w5.heap.size := by omega
                  have hbn : b ≠ w5.heap.size := by omega
                  have hf7 := ownV_free hout t
                  clear hown hout
                  go_wp2_with fail
                  go_region_law (first
                    | (refine step_push _ rfl rfl (.tmp 112) (.tmp 114) rfl (w1.heap.size + 1) w5.heap.size (.slice Au cc.length cu) cc fresh rfl rfl ?_ ?_ (by omega) ?_ ?_; (exact heap_alloc_new w5 _); (exact HOw.out _ ((Below.refl _ w5).alloc (Nat.le_refl _) _).drew); (simp; omega); intro v8 w8 h1 h2 h3; obtain ⟨A8, c8, rfl⟩ : ∃ A8 c8, v8 = .slice A8 (cc.length + 1) c8 := (row_ints h1.row).2.elim fun A h => h.elim fun c h => ⟨A, c, by rw [h.1, List.length_append]; rfl⟩; have HO8 := Lib.hid h1; have HB8 := Lib.hid (h3.imp_right (fun h => h.trans (congrArg some (World.size_alloc w5 _)))); have HK8 := Lib.hid (Kept.grown (((Kept.refl (fun j => (Value.slice Au cc.length cu).ownBlock = some j) w5).alloc _).drew) h2 (fun k hk => .inl hk)); obtain ⟨l4, l5, l6⟩ := KS.out _ HK8.out; clear h1 h2 h3))
                  all_goals
                    have O9 := Lib.hid (HP.out w8 _ HO8.out HB8.out HK8.out)
                    have hk9 := (HK8.out.mono (G := fun j => (Value.slice Au cc.length cu).ownBlock = some j ∨ j = b) (fun _ _ h => .inl h)).setCell (p := ⟨b, t, none⟩) (.inl (.inr rfl)) (.slice A8 (cc.length + 1) c8)
                    have hlo : ∀ j, ((Value.slice Au cc.length cu).ownBlock = some j ∨ j = b) → w1.heap.size + 1 ≤ j := fun j hj => by
                      rcases hj with h | h
                      · exact (HF.out j h).1
                      · rw [h]; exact hbb
                    have N9 := Lib.hid (N5.out.kept hk9 (fun h => by have := hlo _ h; omega))
                    have R9 := Lib.hid (R5.out.kept hk9 (fun h => by have := hlo _ h; omega))
                    have B9 := Lib.hid (B5.out.trans (hk9.below B5.out.size (fun j h => by have := hlo j h; omega)))
                    obtain ⟨_, hm0, hm1, _⟩ := N9.out.facts
                    obtain ⟨_, hd0, hd1, hdf⟩ := R9.out.facts
                    clear hk9 hlo l4 l5 l6 hn0 hn1 hc1 hf7
                    generalize hW9 : w8.setCell ⟨b, t, none⟩ (.slice A8 (cc.length + 1) c8) = W9 at *
                    clear hW9
                    go_wp2_with fail
                    obtain ⟨_, e0, e1, _⟩ := (put2_two R9.out (.int .i64 (ep + 1)) (.slice (some ⟨b, 0, none⟩) cs.length co)).facts
                    have HG2 := (O9.out.kept (put2_kept (Kept.refl (fun j => j = w.heap.size + 1) _) (.inl rfl) (.int .i64 (ep + 1)) (.slice (some ⟨b, 0, none⟩) cs.length co)) (fun k hk => by omega)).grid
                    exact bodyPost_ret (v := .tuple #[planV (ep + 1) (.slice (some ⟨b, 0, none⟩) cs.length co), .int .i64 0]) (by simp [results, Tryd.results20, go_sem, e0, e1]) rfl (repI_ok HN.out HG2 (put2_below B9.out (by omega) _ _))
              · rw [zt]
                by_cases q3 : 3 ≤ cc.length
                · have HN := Lib.hid (HX.out q3)
                  have q4 : (3 : Int) ≤ (cc.length : Int) := by omega
                  obtain ⟨_, hd0, hd1, hdf⟩ := R5.out.facts
                  clear q3
                  go_wp2_with fail
                  obtain ⟨_, e0, e1, _⟩ := (put2_two R5.out (.int .i64 0) (.slice none 0 0)).facts
                  exact bodyPost_ret (v := .tuple #[planV 0 (.slice none 0 0), .int .i64 13]) (by simp [results, Tryd.results20, go_sem, e0, e1]) rfl (repI_bad 13 13 rfl HN.out (put2_below B5.out (by omega) _ _))
                · have HN := Lib.hid (HY.out q3)
                  have q4 : ¬ (3 : Int) ≤ (cc.length : Int) := by omega
                  clear q3
                  have HOw := Lib.hid (fun W (hb : Below w5.heap.size w5 W) => (show Own W (w1.heap.size + 1) (.slice Au cc.length cu) cc from own_below hown hb))
                  have HF := Lib.hid (show ∀ j, (Value.slice Au cc.length cu).ownBlock = some j → w1.heap.size + 1 ≤ j ∧ j ≠ b from fun j hj => ⟨(World.ownsRow.lt hown j hj).1, fun e => ownV_ne hown hout (by decide) j hj (by rw [e]; rfl)⟩)
                  have KS := Lib.hid (show ∀ W : World, Kept (fun j => (Value.slice Au cc.length cu).ownBlock = some j) w5 W → (W.cell? ⟨w1.heap.size, 1, none⟩ = some (.slice (some ⟨b, 0, none⟩) cs.length co) ∧ W.cell? ⟨b, t, none⟩ = some (.slice Au cc.length cu) ∧ W.frozen? ⟨b, t, none⟩ = false) from fun W hk =>
                    have ho := hk.own hout (fun j hj hf => (HF.out j hf).2 (by injection hj with hj; exact hj.symm))
                    ⟨(N5.out.kept hk (fun hf => by have := (HF.out _ hf).1; omega)).facts.2.2.1, ownV_cell ho t _ hu, ownV_free ho t⟩)
                  have HP := Lib.hid (fun (w' : World) (u' : Value) (ho : Own w' (w1.heap.size + 1) u' (cc ++ [fresh])) (hbk : u'.ownBlock = (Value.slice Au cc.length cu).ownBlock ∨ u'.ownBlock = some (w5.heap.size + 1)) (hk : Kept (fun j => (Value.slice Au cc.length cu).ownBlock = some j) w5 w') =>
                    O5.out.put hu hk ho (fun j hj => hbk.elim (fun h => .inl (by rw [← h]; exact hj)) (fun h => .inr (by rw [h] at hj; injection hj with hj; omega))))
                  have hbl := (World.ownsRow.lt hout b rfl).2
                  have hs7 : w1.heap.size + 1 ≤ w5.heap.size := by omega
                  have hbn : b ≠ w5.heap.size := by omega
                  have hf7 := ownV_free hout t
                  clear hown hout
                  go_wp2_with fail
                  go_region_law (first
                    | (refine step_push _ rfl rfl (.tmp 112) (.tmp 114) rfl (w1.heap.size + 1) w5.heap.size (.slice Au cc.length cu) cc fresh rfl rfl ?_ ?_ (by omega) ?_ ?_; (exact heap_alloc_new w5 _); (exact HOw.out _ ((Below.refl _ w5).alloc (Nat.le_refl _) _).drew); (simp; omega); intro v8 w8 h1 h2 h3; obtain ⟨A8, c8, rfl⟩ : ∃ A8 c8, v8 = .slice A8 (cc.length + 1) c8 := (row_ints h1.row).2.elim fun A h => h.elim fun c h => ⟨A, c, by rw [h.1, List.length_append]; rfl⟩; have HO8 := Lib.hid h1; have HB8 := Lib.hid (h3.imp_right (fun h => h.trans (congrArg some (World.size_alloc w5 _)))); have HK8 := Lib.hid (Kept.grown (((Kept.refl (fun j => (Value.slice Au cc.length cu).ownBlock = some j) w5).alloc _).drew) h2 (fun k hk => .inl hk)); obtain ⟨l4, l5, l6⟩ := KS.out _ HK8.out; clear h1 h2 h3))
                  all_goals
                    have O9 := Lib.hid (HP.out w8 _ HO8.out HB8.out HK8.out)
                    have hk9 := (HK8.out.mono (G := fun j => (Value.slice Au cc.length cu).ownBlock = some j ∨ j = b) (fun _ _ h => .inl h)).setCell (p := ⟨b, t, none⟩) (.inl (.inr rfl)) (.slice A8 (cc.length + 1) c8)
                    have hlo : ∀ j, ((Value.slice Au cc.length cu).ownBlock = some j ∨ j = b) → w1.heap.size + 1 ≤ j := fun j hj => by
                      rcases hj with h | h
                      · exact (HF.out j h).1
                      · rw [h]; exact hbb
                    have N9 := Lib.hid (N5.out.kept hk9 (fun h => by have := hlo _ h; omega))
                    have R9 := Lib.hid (R5.out.kept hk9 (fun h => by have := hlo _ h; omega))
                    have B9 := Lib.hid (B5.out.trans (hk9.below B5.out.size (fun j h => by have := hlo j h; omega)))
                    obtain ⟨_, hm0, hm1, _⟩ := N9.out.facts
                    obtain ⟨_, hd0, hd1, hdf⟩ := R9.out.facts
                    clear hk9 hlo l4 l5 l6 hn0 hn1 hc1 hf7
                    generalize hW9 : w8.setCell ⟨b, t, none⟩ (.slice A8 (cc.length + 1) c8) = W9 at *
                    clear hW9
                    go_wp2_with fail
                    obtain ⟨_, e0, e1, _⟩ := (put2_two R9.out (.int .i64 (ep + 1)) (.slice (some ⟨b, 0, none⟩) cs.length co)).facts
                    have HG2 := (O9.out.kept (put2_kept (Kept.refl (fun j => j = w.heap.size + 1) _) (.inl rfl) (.int .i64 (ep + 1)) (.slice (some ⟨b, 0, none⟩) cs.length co)) (fun k hk => by omega)).grid
                    exact bodyPost_ret (v := .tuple #[planV (ep + 1) (.slice (some ⟨b, 0, none⟩) cs.length co), .int .i64 0]) (by simp [results, Tryd.results20, go_sem, e0, e1]) rfl (repI_ok HN.out HG2 (put2_below B9.out (by omega) _ _))
end Go.Proofs.YtjcingefdgmdkaaDoor
