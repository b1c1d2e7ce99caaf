/- Package plan's without and needy; the library's ContainsFunc of the empty ones. -/
import Derived.Test.YtjcingefdgmdkaaDoorPlQ
import Derived.Test.YtjcingefdgmdkaaDoorPlG
import Derived.Deep.RegionHeld3
namespace Go.Proofs.YtjcingefdgmdkaaDoor
open Go.RowKit Tide

theorem empty_any (u : Value) (c : List Int) (B : Nat) (w : World) (hu : Row w B u (int64s c)) :
    Calls Tryd.prog 32 #[u] w fun e w' => e = .returned (.bool (decide (c = []))) ∧ w = w' := by
  obtain ⟨hl, A, k, rfl, _⟩ := row_ints hu
  clear hu
  by_cases h : c = []
  · subst h
    go_enter Tryd.func32, Tryd.ntmps32
    go_wp2_with fail
    go_ret
    exact ⟨rfl, rfl⟩
  · have hq : ((c.length : Int) == 0) = false := beq_eq_false_iff_ne.2 (by intro e; exact h (List.length_eq_zero_iff.1 (by omega)))
    have HR := Lib.hid (decide_eq_false h)
    clear h
    go_enter Tryd.func32, Tryd.ntmps32
    go_wp2_with fail
    go_ret
    exact ⟨by rw [HR.out] <;> rfl, rfl⟩
theorem idxG_any (cs : List (List Int)) (v : Value) (B : Nat) (w : World) (hv : Grid w B v cs) :
    Calls Tryd.prog 42 #[v, .func (.func 32) #[] #[]] w fun e w' => ∃ z : Int, e = .returned (.int .i64 z) ∧ ([] ∈ cs ∧ 0 ≤ z ∨ ¬ [] ∈ cs ∧ z = -1) ∧ w = w' := by
  obtain ⟨hl, A, c, rfl, hc⟩ := hv.form
  have HC := Lib.hid hc
  clear hv hc
  go_enter Tryd.func42, Tryd.ntmps42
  go_wp2_with fail
  go_loop [8] (fun i => ∃ k : Nat, i = .int .i64 k ∧ k ≤ cs.length ∧ Hid (¬ [] ∈ cs.take k)) (fun i => cs.length - (intOf i).toNat)
  case atStart => exact ⟨0, rfl, Nat.zero_le _, Lib.hid (by simp)⟩
  case round =>
    obtain ⟨k, rfl, hk, hS⟩ := hrel
    by_cases hlt : k < cs.length
    · obtain ⟨b, o, u, rfl, hbl, hcu, hr⟩ := HC.out k hlt
      have i1 : (k : Int) < (cs.length : Int) := by omega
      have CE := Lib.hid (empty_any u cs[k] B w hr)
      have HY := Lib.hid (show (cs[k] = [] → [] ∈ cs) from fun h => by rw [← h]; exact List.getElem_mem hlt)
      have HN := Lib.hid (show (¬ cs[k] = [] → ¬ [] ∈ cs.take (k + 1)) from fun h hx => by
        rw [List.take_succ_eq_append_getElem hlt] at hx
        rcases List.mem_append.1 hx with h1 | h1
        · exact hS.out h1
        · simp at h1; exact h h1)
      obtain ⟨_, Au, cu, rfl, _⟩ := row_ints hr
      clear hr
      generalize cs[k] = cc at *
      by_cases he : cc = []
      · have HR := Lib.hid (HY.out he)
        rw [decide_eq_true he] at CE
        clear he
        go_wp2_with fail
        refine CE.out.mono ?_
        rintro e w' ⟨rfl, rfl⟩
        go_wp2_with fail
        go_ret
        exact ⟨k, rfl, .inl ⟨HR.out, by omega⟩, rfl⟩
      · have HR := Lib.hid (HN.out he)
        rw [decide_eq_false he] at CE
        clear he
        go_wp2_with fail
        refine CE.out.mono ?_
        rintro e w' ⟨rfl, rfl⟩
        go_wp2_with fail
        go_round
        case rel => exact ⟨k + 1, by go_num, by omega, HR⟩
        case measure => simp [intOf]; omega
    · have HR := Lib.hid (show ¬ [] ∈ cs from by have := hS.out; rwa [List.take_of_length_le (by omega)] at this)
      go_wp2_with fail
      go_ret
      exact ⟨-1, rfl, .inr ⟨HR.out, rfl⟩, rfl⟩
theorem containsG_any (cs : List (List Int)) (v : Value) (B : Nat) (w : World) (hv : Grid w B v cs) :
    Calls Tryd.prog 31 #[v, .func (.func 32) #[] #[]] w fun e w' => e = .returned (.bool (decide ([] ∈ cs))) ∧ w = w' := by
  have CI := Lib.hid (idxG_any cs v B w hv)
  clear hv
  go_enter Tryd.func31, Tryd.ntmps31
  go_wp2_with fail
  refine CI.out.mono ?_
  rintro e w' ⟨z, rfl, hz, rfl⟩
  rcases hz with ⟨hm, hz⟩ | ⟨hm, rfl⟩
  · have HR := Lib.hid (decide_eq_true hm)
    clear hm
    go_wp2_with fail
    go_ret
    exact ⟨by rw [HR.out] <;> rfl, rfl⟩
  · have HR := Lib.hid (decide_eq_false hm)
    clear hm
    go_wp2_with fail
    go_ret
    exact ⟨by rw [HR.out] <;> rfl, rfl⟩

set_option maxHeartbeats 2000000 in
theorem needy_any (ep ep' : Int) (cs ds : List (List Int)) (v v' : Value) (B : Nat) (w : World) (hv : Grid w B v cs) (hv' : Grid w B v' ds) (hB : B ≤ w.heap.size) (hl : ds.length = cs.length) (h0 : 0 < ds.length) :
    Calls Tryd.prog 34 #[planV ep v, planV ep' v'] w fun e w' => e = .returned (.int .i64 (toN cs ds : Int)) ∧ Below w.heap.size w w' := by
  obtain ⟨hlc, A, c, rfl, hcc⟩ := hv.form
  obtain ⟨hld, A', c', rfl, hcd⟩ := hv'.form
  have hb0 := ((Below.refl w.heap.size w).alloc (Nat.le_refl _) (.cells #[.int .i64 ep, .slice A cs.length c] 24)).alloc (by simp) (.cells #[.int .i64 ep', .slice A' ds.length c'] 24)
  have B0 := Lib.hid hb0
  have HC := Lib.hid (show ∀ i (hi : i < cs.length), ∃ b o Au cu, A = some ⟨b, o, none⟩ ∧ ((w.alloc (.cells #[.int .i64 ep, .slice A cs.length c] 24)).alloc (.cells #[.int .i64 ep', .slice A' ds.length c'] 24)).cell? ⟨b, o + i, none⟩ = some (.slice Au cs[i].length cu) from fun i hi => by
    obtain ⟨b, o, u, e, hb, hc, hr⟩ := hcc i hi
    obtain ⟨_, Au, cu, rfl, _⟩ := row_ints hr
    exact ⟨b, o, Au, cu, e, (hb0.cell (p := ⟨b, o + i, none⟩) (by show b < _; omega)).trans hc⟩)
  have HD := Lib.hid (show ∀ i (hi : i < ds.length), ∃ b o Au cu, A' = some ⟨b, o, none⟩ ∧ ((w.alloc (.cells #[.int .i64 ep, .slice A cs.length c] 24)).alloc (.cells #[.int .i64 ep', .slice A' ds.length c'] 24)).cell? ⟨b, o + i, none⟩ = some (.slice Au ds[i].length cu) from fun i hi => by
    obtain ⟨b, o, u, e, hb, hc, hr⟩ := hcd i hi
    obtain ⟨_, Au, cu, rfl, _⟩ := row_ints hr
    exact ⟨b, o, Au, cu, e, (hb0.cell (p := ⟨b, o + i, none⟩) (by show b < _; omega)).trans hc⟩)
  have HLe := Lib.hid hl
  have H0 := Lib.hid h0
  clear hcc hcd hv hv' hb0 hl h0
  go_enter Tryd.func34, Tryd.ntmps34
  go_wp2_with fail
  go_loop [5, 11] (fun f i => ∃ k : Nat, i = .int .i64 k ∧ k ≤ ds.length ∧ f = .int .i64 (leastN ds k : Int) ∧ Hid (homeN cs ds k = none)) (fun _ i => ds.length - (intOf i).toNat)
  case atStart => exact ⟨0, rfl, Nat.zero_le _, rfl, Lib.hid rfl⟩
  case round =>
    obtain ⟨k, rfl, hk, rfl, hN⟩ := hrel
    by_cases hlt : k < ds.length
    · have hltc : k < cs.length := by rw [← HLe.out]; exact hlt
      have hf := least_lt ds k hk H0.out
      have i1 : (k : Int) < (ds.length : Int) := by omega
      have i2 : (k : Int) < (cs.length : Int) := by omega
      have i3 : (leastN ds k : Int) < (ds.length : Int) := by omega
      obtain ⟨b, o, A1, c1, e1, h1⟩ := HD.out k hlt
      obtain ⟨b2, o2, A2, c2, e2, h2⟩ := HC.out k hltc
      obtain ⟨b3, o3, A3, c3, e3, h3⟩ := HD.out (leastN ds k) hf
      have HT := Lib.hid (show ds[k].length < cs[k].length → toN cs ds = k from fun h => to_home hN.out (by rwa [List.getD_eq_getElem?_getD, List.getD_eq_getElem?_getD, List.getElem?_eq_getElem hlt, List.getElem?_eq_getElem hltc]) hlt)
      have HNo := Lib.hid (show ¬ ds[k].length < cs[k].length → homeN cs ds (k + 1) = none from fun h => home_none hN.out (by rwa [List.getD_eq_getElem?_getD, List.getD_eq_getElem?_getD, List.getElem?_eq_getElem hlt, List.getElem?_eq_getElem hltc]))
      have HLe2 := Lib.hid (show leastN ds (k + 1) = if ds[k].length < ds[leastN ds k].length then k else leastN ds k from by
        rw [leastN, List.getD_eq_getElem?_getD, List.getD_eq_getElem?_getD, List.getElem?_eq_getElem hlt, List.getElem?_eq_getElem hf]; rfl)
      subst e1 e2
      injection e3 with e3
      injection e3 with e3 e4 _
      subst e3 e4
      generalize ds[leastN ds k].length = r at *
      generalize leastN ds k = f at *
      generalize ds[k].length = p at *
      generalize cs[k].length = q at *
      clear hf
      by_cases hpq : p < q
      · have HR := Lib.hid (HT.out hpq)
        have i4 : (p : Int) < (q : Int) := by omega
        clear hpq
        go_wp2_with fail
        go_ret
        exact ⟨by rw [HR.out] <;> rfl, B0.out⟩
      · have HR := Lib.hid (HNo.out hpq)
        have i4 : ¬ (p : Int) < (q : Int) := by omega
        clear hpq
        by_cases hpr : p < r
        · have HR2 := Lib.hid (show leastN ds (k + 1) = k from by rw [HLe2.out, if_pos hpr])
          have i5 : (p : Int) < (r : Int) := by omega
          clear hpr
          go_wp2_with fail
          go_round
          case rel => exact ⟨k + 1, by go_num, by omega, by rw [HR2.out] <;> rfl, HR⟩
          case measure => simp [intOf]; omega
        · have HR2 := Lib.hid (show leastN ds (k + 1) = f from by rw [HLe2.out, if_neg hpr])
          have i5 : ¬ (p : Int) < (r : Int) := by omega
          clear hpr
          go_wp2_with fail
          go_round
          case rel => exact ⟨k + 1, by go_num, by omega, by rw [HR2.out] <;> rfl, HR⟩
          case measure => simp [intOf]; omega
    · have HR := Lib.hid (show toN cs ds = leastN ds k from by
        have e : k = ds.length := by omega
        subst e; exact to_least hN.out)
      go_wp2_with fail
      go_ret
      exact ⟨by rw [HR.out] <;> rfl, B0.out⟩

set_option maxRecDepth 100000 in
set_option maxHeartbeats 4000000 in
/-- A plan without the units that go. -/
theorem without_any (ep : Int) (cs : List (List Int)) (gl : List Int) (v gv : Value) (B : Nat) (w : World) (hv : Grid w B v cs) (hB : B ≤ w.heap.size) (hg : Row w B gv (int64s gl)) (hn : cs.length ≤ 1000) (hl : ∀ c ∈ cs, c.length ≤ 1000) :
    Calls Tryd.prog 30 #[planV ep v, gv] w fun e w' => ∃ v' vs, e = .returned (planV ep v') ∧ GridO w' w.heap.size v' vs (cs.map (delL gl)) ∧ Below w.heap.size w w' := by
  obtain ⟨hgl, Ag, cg, rfl, _⟩ := row_ints hg
  have hvf : ∃ Av cv, v = .slice Av cs.length cv := by
    obtain ⟨_, A, c, e, _⟩ := hv.form
    exact ⟨A, c, e⟩
  obtain ⟨Av, cv, rfl⟩ := hvf
  have B0 := Lib.hid ((((Below.refl w.heap.size w).alloc (Nat.le_refl _) (.cells #[.int .i64 ep, .slice Av cs.length cv] 24)).alloc (by simp) (.cells #[.slice Ag gl.length cg] 25)).alloc (by simp; omega) (.cells #[.int .i64 0, .slice none 0 0] 24))
  have G0 := Lib.hid (show (((w.alloc (.cells #[.int .i64 ep, .slice Av cs.length cv] 24)).alloc (.cells #[.slice Ag gl.length cg] 25)).alloc (.cells #[.int .i64 0, .slice none 0 0] 24)).cell? ⟨w.heap.size + 1, 0, none⟩ = some (.slice Ag gl.length cg) from by
    rw [cell_of_row _ _ 0 #[.slice Ag gl.length cg] 25 (0, 0) (by
      have := heap_alloc_new (w.alloc (.cells #[.int .i64 ep, .slice Av cs.length cv] 24)) (.cells #[.slice Ag gl.length cg] 25)
      rw [World.size_alloc] at this
      exact (Below.heap_alloc _ _ _ (by simp)).trans this)]; rfl)
  have R0 := Lib.hid (show Two (((w.alloc (.cells #[.int .i64 ep, .slice Av cs.length cv] 24)).alloc (.cells #[.slice Ag gl.length cg] 25)).alloc (.cells #[.int .i64 0, .slice none 0 0] 24)) (w.heap.size + 2) 24 (.int .i64 0) (.slice none 0 0) from by
    have := Two.new ((w.alloc (.cells #[.int .i64 ep, .slice Av cs.length cv] 24)).alloc (.cells #[.slice Ag gl.length cg] 25)) 24 (.int .i64 0) (.slice none 0 0)
    simp only [World.size_alloc] at this
    exact this)
  have CC := Lib.hid (fun W (h : Below w.heap.size w W) => copy_any ep cs _ B W (hv.below (h.mono hB)) (Nat.le_trans hB h.size) hn hl)
  have HRG := Lib.hid (fun W (h : Below w.heap.size w W) => (show Row W B (.slice Ag gl.length cg) (int64s gl) from Row.keep hg (below_cells (h.mono hB))))
  have HN := Lib.hid hn
  have HL := Lib.hid hl
  have HBs := Lib.hid hB
  clear hv hg hn hl hB
  go_enter Tryd.func30, Tryd.ntmps30
  go_wp2_with fail
  refine (CC.out _ B0.out).mono ?_
  rintro e w1 ⟨v1, vs1, rfl, ho, hb⟩
  obtain ⟨A1, c1, rfl⟩ : ∃ A1 c1, v1 = .slice A1 cs.length c1 := by
    rcases ho.outer.2 with ⟨h1, h2⟩ | ⟨g, cap, _, h1, _⟩
    · exact ⟨none, 0, by rw [h1, h2]⟩
    · exact ⟨_, cap, h1⟩
  have hmf : ∀ (fn : Fn) (first cap : Array Value) (w : World), (Instr.makeFunc fn first cap).run Tryd.prog w = .ok (.func fn first cap) w := fun _ _ _ _ => rfl
  have hs1 : w.heap.size + 3 ≤ w1.heap.size := by have := hb.size; simp at this; omega
  have D := Lib.hid ((Below.refl w1.heap.size w1).alloc (Nat.le_refl _) (.cells #[.int .i64 ep, .slice A1 cs.length c1] 24))
  have L2 := Lib.hid (Two.new w1 24 (.int .i64 ep) (.slice A1 cs.length c1))
  have B1 := Lib.hid (B0.out.trans (hb.mono B0.out.size))
  have B2 := Lib.hid (B1.out.trans (D.out.mono B1.out.size))
  have G2 := Lib.hid ((D.out.cell (p := ⟨w.heap.size + 1, 0, none⟩) (by show w.heap.size + 1 < w1.heap.size; omega)).trans ((hb.cell (p := ⟨w.heap.size + 1, 0, none⟩) (by simp)).trans G0.out))
  have R2 := Lib.hid ((R0.out.below hb R0.out.lt).below D.out (by omega))
  have O2 := Lib.hid ((ho.later (base' := w.heap.size + 3) (by simp)).below D.out)
  clear hb ho CC B0 G0 R0
  go_wp2_with fail
  go_loopw [15] (fun i wr => ∃ (k : Nat) (vs : List Value), i = .int .i64 k ∧ k ≤ cs.length ∧ Hid (GridO wr (w.heap.size + 3) (.slice A1 cs.length c1) vs ((cs.take k).map (delL gl) ++ cs.drop k)) ∧ Hid (Two wr w1.heap.size 24 (.int .i64 ep) (.slice A1 cs.length c1)) ∧ Hid (wr.cell? ⟨w.heap.size + 1, 0, none⟩ = some (.slice Ag gl.length cg)) ∧ Hid (Two wr (w.heap.size + 2) 24 (.int .i64 0) (.slice none 0 0)) ∧ Hid (Below w.heap.size w wr)) (fun i _ => cs.length - (intOf i).toNat)
  case atStart => exact ⟨0, vs1, rfl, Nat.zero_le _, O2, L2, G2, R2, B2⟩
  case round =>
    clear B1 B2 G2 R2 O2 L2 D
    obtain ⟨k, vs, rfl, hk, hO, hL, hG, hR, hBr⟩ := hrel
    have hn9 := HN.out
    by_cases hlt : k < cs.length
    · have hll : ((cs.take k).map (delL gl) ++ cs.drop k).length = cs.length := by simp; omega
      have hout := hO.out.outer
      rw [hll] at hout
      obtain ⟨b, c, hv2, hbb⟩ := ownV_form hout (by omega)
      injection hv2 with e1 e2 e3
      subst e1 e3
      obtain ⟨u, hu⟩ : ∃ u, vs[k]? = some u := ⟨_, List.getElem?_eq_getElem (by rw [ownV_len hout]; exact hlt)⟩
      have hown := hO.out.rows k u _ hu (map_mid (delL gl) cs k hlt)
      obtain ⟨_, Au, cu, rfl, _⟩ := row_ints hown.row
      have hc1 := ownV_cell hout k _ hu
      have i1 : (k : Int) < (cs.length : Int) := by omega
      have hub := fun j hj => (World.ownsRow.lt hown j hj).1
      have CD := Lib.hid (fun (W : World) (hb : Below wr.heap.size wr W) => del_any cs[k] gl _ _ (w.heap.size + 1) B (w.heap.size + 3) W (own_below hown hb) (by have := HL.out _ (List.getElem_mem hlt); omega)
        ((hb.cell (p := ⟨w.heap.size + 1, 0, none⟩) (World.block_lt_of_cell? _ _ hG.out)).trans hG.out) (Nat.lt_of_lt_of_le (World.block_lt_of_cell? _ _ hG.out) hb.size) (fun e => by have := hub _ e; omega) (HRG.out W (hBr.out.trans (hb.mono hBr.out.size))) (by have := HBs.out; omega))
      have HP := Lib.hid (fun (w' : World) (u' : Value) (ho : Own w' (w.heap.size + 3) u' (delL gl cs[k])) (hbk : u'.ownBlock = (Value.slice Au cs[k].length cu).ownBlock) (hk : Kept (fun j => (Value.slice Au cs[k].length cu).ownBlock = some j) wr w') => (show GridO (w'.setCell ⟨b, k, none⟩ u') (w.heap.size + 3) (.slice (some ⟨b, 0, none⟩) cs.length c1) (vs.set k u') ((cs.take (k + 1)).map (delL gl) ++ cs.drop (k + 1)) from by
        have := hO.out.put hu hk ho (fun j hj => .inl (by rw [← hbk]; exact hj))
        rwa [map_step (delL gl) cs k hlt] at this))
      have HF := Lib.hid (show ∀ j, (Value.slice Au cs[k].length cu).ownBlock = some j → w.heap.size + 3 ≤ j ∧ j ≠ w1.heap.size ∧ j ≠ b from fun j hj => ⟨hub j hj, fun e => two_apart hL.out hown (by decide) (by rw [hj, e]), fun e => ownV_ne hown hout (by decide) j hj (by rw [e]; rfl)⟩)
      have KS := Lib.hid (show ∀ W : World, Kept (fun j => (Value.slice Au cs[k].length cu).ownBlock = some j) wr W → (W.cell? ⟨w1.heap.size, 1, none⟩ = some (.slice (some ⟨b, 0, none⟩) cs.length c1) ∧ W.cell? ⟨b, k, none⟩ = some (.slice Au cs[k].length cu) ∧ W.frozen? ⟨b, k, none⟩ = false) from fun W hk =>
        have ho := hk.own hout (fun j hj hf => (HF.out j hf).2.2 (by injection hj with hj; exact hj.symm))
        ⟨(hL.out.kept hk (fun hf => (HF.out _ hf).2.1 rfl)).facts.2.2.1, ownV_cell ho k _ hu, ownV_free ho k⟩)
      have HBW := Lib.hid (show b ≠ w1.heap.size ∧ w.heap.size + 3 ≤ b from ⟨fun e => two_apart hL.out hout (by decide) (by rw [← e]; rfl), hbb⟩)
      have D0 := Lib.hid ((Kept.refl (fun j => (Value.slice Au cs[k].length cu).ownBlock = some j) wr).drew)
      have DB0 := Lib.hid ((Below.refl wr.heap.size wr).drew)
      clear hown hout hub hll
      generalize cs[k] = cc at *
      go_wp2_with fail
      obtain ⟨l1, l2, l3⟩ := KS.out _ D0.out
      go_region_with (first
          | (go_at_call 41; (with_reducible refine (CD.out _ ?_).mono ?_); exact DB0.out; rintro e w2 ⟨u', rfl, ho, hbk, hk2⟩; obtain ⟨_, Au', cu', rfl, _⟩ := row_ints ho.row; have D1 := Lib.hid (D0.out.trans hk2 (fun _ h => .inl h)); obtain ⟨l4, l5, l6⟩ := KS.out _ D1.out; have HO := Lib.hid ho; have HBk := Lib.hid hbk; clear ho hbk hk2))
      all_goals
        have O3 := Lib.hid (HP.out w2 _ HO.out HBk.out D1.out)
        have hk3 := (D1.out.mono (G := fun j => (Value.slice Au cc.length cu).ownBlock = some j ∨ j = b) (fun _ _ h => .inl h)).setCell (p := ⟨b, k, none⟩) (.inl (.inr rfl)) (.slice Au' (delL gl cc).length cu')
        have hlo : ∀ j, ((Value.slice Au cc.length cu).ownBlock = some j ∨ j = b) → w.heap.size + 3 ≤ j ∧ j ≠ w1.heap.size := fun j hj => by
          rcases hj with h | h
          · exact ⟨(HF.out j h).1, (HF.out j h).2.1⟩
          · rw [h]; exact ⟨HBW.out.2, HBW.out.1⟩
        have L3 := Lib.hid (hL.out.kept hk3 (fun h => (hlo _ h).2 rfl))
        have R3 := Lib.hid (hR.out.kept hk3 (fun h => by have := (hlo _ h).1; omega))
        have G3 := Lib.hid ((hk3.cell (p := ⟨w.heap.size + 1, 0, none⟩) (World.block_lt_of_cell? _ _ hG.out) (fun h => by have h5 : w.heap.size + 3 ≤ w.heap.size + 1 := (hlo _ h).1; omega)).trans hG.out)
        have B3 := Lib.hid (hBr.out.trans (hk3.below hBr.out.size (fun j h => by have := (hlo j h).1; omega)))
        clear hk3 hlo l1 l2 l3 l4 l5 l6
        go_wp2_with fail
        go_roundw
        case rel => exact ⟨k + 1, vs.set k _, by go_num, by omega, O3, L3, G3, R3, B3⟩
        case measure => simp [intOf]; omega
    · have HE := Lib.hid (show (cs.take k).map (delL gl) ++ cs.drop k = cs.map (delL gl) from by rw [List.take_of_length_le (by omega), List.drop_of_length_le (by omega), List.append_nil])
      obtain ⟨_, hc0, hc1, _⟩ := hL.out.facts
      obtain ⟨_, hd0, hd1, hdf⟩ := hR.out.facts
      go_wp2_with fail
      obtain ⟨_, e0, e1, _⟩ := (put2_two hR.out (.int .i64 ep) (.slice A1 cs.length c1)).facts
      have HG2 := (hO.out.kept (put2_kept (Kept.refl (fun j => j = w.heap.size + 2) wr) (.inl rfl) (.int .i64 ep) (.slice A1 cs.length c1)) (fun k hk => by omega)).later (base' := w.heap.size) (by omega)
      rw [HE.out] at HG2
      exact bodyPost_ret (v := planV ep (.slice A1 cs.length c1)) (by simp [results, Tryd.results30, go_sem, e0, e1]) rfl ⟨_, vs, rfl, HG2, put2_below hBr.out (by omega) _ _⟩
end Go.Proofs.YtjcingefdgmdkaaDoor
