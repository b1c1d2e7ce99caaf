/- A row of whole numbers of the call's own, its cells; the library's Clone of one. -/
import Derived.Test.YtiafamacjpgjoaaGreatDoorGPlR
import Derived.Test.YtiafamacjpgjoaaGreatDoorGPush
import Derived.Test.YtiafamacjpgjoaaGreatDoorGPlGa
import Derived.Lib.SliceRun
import Derived.Laws.IdiomCopy
namespace Go.Proofs.YtiafamacjpgjoaaGreatDoor
open Go.RowKit Tide

section
variable {W : World} {base b n c : Nat} {l : List Int}
end

theorem cloneI_any (v : Value) (L : List Int) (B : Nat) (w : World) (hp : Row w B v (int64s L)) (hB : B ≤ w.heap.size) (hL : L.length ≤ 1000000) :
    Calls Tryz.prog 48 #[v] w fun e w' => ∃ v', e = .returned v' ∧ Own w' w.heap.size v' L ∧ Below w.heap.size w w' := by
  obtain ⟨i0, hi, hz0, hz1, hz2⟩ := info_parts infoInt
  have HI := Lib.hid hi
  have HP := Lib.hid (hp.more hB)
  obtain ⟨hl, A, c, rfl, hc⟩ := row_ints hp
  clear hi hp hB
  rcases A with _ | a
  · have hn : L = [] := by
      rcases L with _ | ⟨x, L⟩
      · rfl
      · obtain ⟨_, _, h, _⟩ := hc 0 (by simp)
        cases h
    subst hn
    have hq := fun W : World => Lib.run_eql_slice_nil (P := Tryz.prog) W 41 3 none 0 c 0 0 Tryz.underlying41
    go_enter Tryz.func48, Tryz.ntmps48
    go_wp2
    go_ret
    exact ⟨_, rfl, ⟨by simp [int64s], .inl ⟨rfl, rfl⟩⟩, Below.refl _ _⟩
  · clear hc
    have hq := fun W : World => Lib.run_eql_slice_nil (P := Tryz.prog) W 41 3 (some a) L.length c 0 0 Tryz.underlying41
    go_enter Tryz.func48, Tryz.ntmps48
    go_wp2_with (at_builtin; refine wpList_append_row _ rfl (.tmp 5) (.tmp 6) _ rfl w.heap.size 3 i0 (.int .i64 0) 8 Tryz.underlying41 HI.out hz0 hz1 hz2 rfl _ 0 [] rfl ?c1 w.heap.size _ (int64s L) rfl (Row.keep HP.out (below_cells ((Below.refl _ _).alloc (Nat.le_refl _) _))) (ints_one _) ?d1 ?d2 ?d3 ?_)
    case c1 => exact own_new _ _ _ _ _ _ _ _ rfl (Nat.le_refl _) (by simp) (by simp [maxLen]) rfl (by simp)
    case d1 => rw [int64s_length]; unfold maxLen; omega
    case d2 => rw [int64s_length]; omega
    case d3 => simp
    intro v4 w4 hown4 hg4 _
    have hb5 := ((Below.refl w.heap.size w).alloc (Nat.le_refl _) _).grown hg4 (by simp) (fun g hg => by simp [Value.ownBlock] at hg; omega)
    rw [int64s_length] at hown4
    go_wp2_with fail
    go_ret
    exact ⟨_, rfl, hown4, hb5⟩
end Go.Proofs.YtiafamacjpgjoaaGreatDoor

/- The library's Clone of a row of rows of whole numbers; package plan's Copy. -/
namespace Go.Proofs.YtiafamacjpgjoaaGreatDoor
open Go.RowKit Tide

theorem cloneG_any (v : Value) (vs : List Value) (B : Nat) (w : World) (hp : Row w B v vs) (h1 : ∀ u ∈ vs, u.oneCell' = true) (hB : B ≤ w.heap.size) (hL : vs.length ≤ 1000000) :
    Calls Tryz.prog 47 #[v] w fun e w' => ∃ v', e = .returned v' ∧ w'.ownsRow w.heap.size 41 1 v' vs.length vs ∧ Below w.heap.size w w' := by
  obtain ⟨i0, hi, hz0, hz1, hz2⟩ := info_parts infoRow
  have HI := Lib.hid hi
  have H1 := Lib.hid h1
  have HP := Lib.hid (hp.more hB)
  obtain ⟨hl, A, c, rfl, hc1, hc2, hc⟩ := hp
  clear hi hB h1
  rcases A with _ | a
  · have hn : vs = [] := Classical.byContradiction fun hne => by
      obtain ⟨_, _, h, _⟩ := hc hne
      cases h
    subst hn
    have hq := fun W : World => Lib.run_eql_slice_nil (P := Tryz.prog) W 22 41 none 0 c 0 0 Tryz.underlying22
    go_enter Tryz.func47, Tryz.ntmps47
    go_wp2
    go_ret
    exact ⟨_, rfl, ⟨rfl, .inl ⟨rfl, rfl⟩⟩, Below.refl _ _⟩
  · clear hc
    have hq := fun W : World => Lib.run_eql_slice_nil (P := Tryz.prog) W 22 41 (some a) vs.length c 0 0 Tryz.underlying22
    go_enter Tryz.func47, Tryz.ntmps47
    go_wp2_with (at_builtin; refine wpList_append_row _ rfl (.tmp 5) (.tmp 6) _ rfl w.heap.size 41 i0 (.slice none 0 0) 24 Tryz.underlying22 HI.out hz0 hz1 hz2 rfl _ 0 [] rfl ?c1 w.heap.size _ vs rfl (Row.keep HP.out (below_cells ((Below.refl _ _).alloc (Nat.le_refl _) _))) H1.out ?d1 ?d2 ?d3 ?_)
    case c1 => exact own_new _ _ _ _ _ _ _ _ rfl (Nat.le_refl _) (by simp) (by simp [maxLen]) rfl (by simp)
    case d1 => unfold maxLen; omega
    case d2 => omega
    case d3 => simp
    intro v4 w4 hown4 hg4 _
    have hb5 := ((Below.refl w.heap.size w).alloc (Nat.le_refl _) _).grown hg4 (by simp) (fun g hg => by simp [Value.ownBlock] at hg; omega)
    go_wp2_with fail
    go_ret
    exact ⟨_, rfl, hown4, hb5⟩

abbrev put2 (W : World) (g : Nat) (p q : Value) : World := (W.setCell ⟨g, 0, none⟩ p).setCell ⟨g, 1, none⟩ q
theorem put2_two {W : World} {g : Nat} {t : TypeId} {x y : Value} (h : Two W g t x y) (p q : Value) : Two (put2 W g p q) g t p q := (h.setA p).setB q
theorem put2_below {W0 W : World} {B g : Nat} (h : Below B W0 W) (hg : B ≤ g) (p q : Value) : Below B W0 (put2 W g p q) := (h.setCell (p := ⟨g, 0, none⟩) hg p).setCell (p := ⟨g, 1, none⟩) hg q
theorem put2_kept {W0 W : World} {F : Nat → Prop} {g : Nat} (h : Kept F W0 W) (hg : F g ∨ W0.heap.size ≤ g) (p q : Value) : Kept F W0 (put2 W g p q) := (h.setCell (p := ⟨g, 0, none⟩) hg p).setCell (p := ⟨g, 1, none⟩) hg q

set_option maxHeartbeats 2000000 in
theorem pcopy_any (ep : Int) (cs : List (List Int)) (v : Value) (B : Nat) (w : World) (hv : Grid w B v cs) (hB : B ≤ w.heap.size) (hn : cs.length ≤ 1000) (hl : ∀ c ∈ cs, c.length ≤ 1000) :
    Calls Tryz.prog 18 #[planV ep v] w fun e w' => ∃ v' vs, e = .returned (planV ep v') ∧ GridO w' w.heap.size v' vs cs ∧ Below w.heap.size w w' := by
  obtain ⟨us, hrow, hul, hus⟩ := hv
  have B0 := Lib.hid (((Below.refl w.heap.size w).alloc (Nat.le_refl _) (.cells #[.int .i64 ep, v] 24)).alloc (by simp) (.cells #[.int .i64 0, .slice none 0 0] 24))
  have P0 := Lib.hid ((Two.new w 24 (.int .i64 ep) v).alloc (.cells #[.int .i64 0, .slice none 0 0] 24))
  have R0 := Lib.hid (show Two _ (w.heap.size + 1) 24 _ _ from by
    have := Two.new (w.alloc (.cells #[.int .i64 ep, v] 24)) 24 (.int .i64 0) (.slice none 0 0)
    rwa [World.size_alloc] at this)
  have HU := Lib.hid hus
  have HRow := Lib.hid hrow
  have HN := Lib.hid hn
  have HL := Lib.hid hl
  have HBs := Lib.hid hB
  have HUl := Lib.hid hul
  have CC := Lib.hid (fun W (h : Below w.heap.size w W) => cloneG_any v us B W (Row.keep hrow (below_cells (h.mono hB))) (slices_one hul hus) (Nat.le_trans hB h.size) (by omega))
  clear hus hrow hn hl hB hul
  go_enter Tryz.func18, Tryz.ntmps18
  go_wp2_with fail
  refine (CC.out _ B0.out).mono ?_
  rintro e w1 ⟨v1, rfl, ho, hb⟩
  have B1 := Lib.hid (B0.out.trans (hb.mono B0.out.size))
  have P1 := Lib.hid (P0.out.below hb P0.out.lt)
  have R1 := Lib.hid (R0.out.below hb R0.out.lt)
  rw [HUl.out] at ho
  have M1 := Lib.hid (show GMix w1 (w.heap.size + 2) B v1 0 us cs from ⟨own_later ho (by simp), fun i _ _ h => absurd h (Nat.not_lt_zero _), fun i u c _ hu hc => Row.keep (HU.out i u c hu hc) (below_cells (B1.out.mono HBs.out)), fun i j _ _ _ _ h => absurd h (Nat.not_lt_zero _)⟩)
  obtain ⟨A1, c1, hv1⟩ : ∃ A1 c1, v1 = .slice A1 cs.length c1 := by
    rcases ho.2 with ⟨h1, h2⟩ | ⟨g, cap, _, h1, _⟩
    · exact ⟨none, 0, by rw [h1, h2]⟩
    · exact ⟨_, cap, h1⟩
  subst hv1
  clear hb ho CC
  go_wp2_with fail
  go_loopw [11] (fun i wr => ∃ (k : Nat) (vs : List Value), i = .int .i64 k ∧ k ≤ cs.length ∧ Hid (GMix wr (w.heap.size + 2) B (.slice A1 cs.length c1) k vs cs) ∧ Hid (Two wr w.heap.size 24 (.int .i64 ep) v) ∧ Hid (Two wr (w.heap.size + 1) 24 (.int .i64 0) (.slice none 0 0)) ∧ Hid (Below w.heap.size w wr)) (fun i _ => cs.length - (intOf i).toNat)
  case atStart => exact ⟨0, us, rfl, Nat.zero_le _, M1, P1, R1, B1⟩
  case round =>
    clear P1 R1 M1 P0 R0
    obtain ⟨k, vs, rfl, hk, hM, hP, hR, hBr⟩ := hrel
    have hn9 := HN.out
    by_cases hlt : k < cs.length
    · obtain ⟨b, c, hv2, hbb⟩ := ownV_form hM.out.outer (by omega)
      injection hv2 with e1 e2 e3
      subst e1 e3
      have hkl : k < vs.length := by rw [ownV_len hM.out.outer]; exact hlt
      have hc1 := ownV_cell hM.out.outer k _ (List.getElem?_eq_getElem hkl)
      have hOld := hM.out.olds k _ _ (Nat.le_refl _) (List.getElem?_eq_getElem hkl) (List.getElem?_eq_getElem hlt)
      have i1 : (k : Int) < (cs.length : Int) := by omega
      have CI := Lib.hid (cloneI_any _ _ B wr hOld (Nat.le_trans HBs.out hBr.out.size) (by have := HL.out _ (List.getElem_mem hlt); omega))
      have HSt := Lib.hid (fun (w1 : World) (u' : Value) (hw : Below wr.heap.size wr w1) (ho : Own w1 wr.heap.size u' cs[k]) => hM.out.step hlt (by have := HBs.out; omega) hw ho)
      have HMo := Lib.hid (fun (w1 : World) (hw : Below wr.heap.size wr w1) => (show w1.ownsRow (w.heap.size + 2) 41 1 (.slice (some ⟨b, 0, none⟩) cs.length c1) cs.length vs from own_below hM.out.outer hw))
      clear hOld hM
      generalize vs[k] = u at *
      generalize cs[k] = cc at *
      go_wp2_with fail
      refine CI.out.mono ?_
      rintro e w2 ⟨u', rfl, ho, hb⟩
      obtain ⟨_, Au, cu, rfl, _⟩ := row_ints ho.row
      have hM2 := HMo.out w2 hb
      have hc2 : (w2.cell? ⟨b, k, none⟩) = some u := (hb.cell (p := ⟨b, k, none⟩) (World.block_lt_of_cell? _ _ hc1)).trans hc1
      have hf2 := ownV_free hM2 k
      have M2 := Lib.hid (HSt.out w2 _ hb ho)
      have B2 := Lib.hid ((hBr.out.trans (hb.mono hBr.out.size)).setCell (p := ⟨b, k, none⟩) (by show _ ≤ b; omega) (.slice Au cc.length cu))
      have P2 := Lib.hid ((hP.out.below hb hP.out.lt).other (g' := b) (by omega) k (.slice Au cc.length cu))
      have R2 := Lib.hid ((hR.out.below hb hR.out.lt).other (g' := b) (by omega) k (.slice Au cc.length cu))
      clear hM2 ho hb hc1
      go_wp2_with fail
      go_roundw
      case rel => exact ⟨k + 1, vs.set k (.slice Au cc.length cu), by go_num, by omega, M2, P2, R2, B2⟩
      case measure => simp [intOf]; omega
    · have HG := Lib.hid (hM.out.done (by omega))
      obtain ⟨_, hc0, hc1, _⟩ := hP.out.facts
      obtain ⟨_, hd0, hd1, hdf⟩ := hR.out.facts
      go_wp2_with fail
      obtain ⟨_, e0, e1, _⟩ := (put2_two hR.out (.int .i64 ep) (.slice A1 cs.length c1)).facts
      have HG2 := (HG.out.kept (put2_kept (Kept.refl (fun j => j = w.heap.size + 1) wr) (.inl rfl) (.int .i64 ep) (.slice A1 cs.length c1)) (fun k hk => by omega)).later (base' := w.heap.size) (by omega)
      exact bodyPost_ret (v := planV ep (.slice A1 cs.length c1)) (by simp [results, Tryz.results18, go_sem, e0, e1]) rfl ⟨_, vs, rfl, HG2, put2_below hBr.out (by omega) _ _⟩
end Go.Proofs.YtiafamacjpgjoaaGreatDoor
