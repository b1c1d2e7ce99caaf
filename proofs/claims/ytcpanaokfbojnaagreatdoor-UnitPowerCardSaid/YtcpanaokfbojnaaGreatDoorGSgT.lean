/- The document's own store: Fits, Take. -/
import Derived.Test.YtcpanaokfbojnaaGreatDoorGSgR
import Derived.Deep.RegionLaw
namespace Go.Proofs.YtcpanaokfbojnaaGreatDoor
open Go.RowKit Tide

theorem last_of {gs : List SegW} (h : gs ≠ []) : (gs.map SegW.d).getLast? = some (gs[gs.length - 1]'(by have := List.length_pos_iff.2 h; omega)).d := by
  have hp := List.length_pos_iff.2 h
  rw [List.getLast?_eq_getElem?, List.length_map, List.getElem?_map, List.getElem?_eq_getElem (by omega)]
  rfl
section
variable {W : World} {F S : Nat → Prop} {p places : Nat} {gs : List SegW} {vs : Value}
set_option maxHeartbeats 1000000 in
theorem fits_any (h : RefW W F S p places gs vs) (hs : ∀ g ∈ gs, g.d.sectors ≤ 63) (hmax : gs.length ≤ 1000) (A : Option Addr) (n c : Nat) (hn : n ≤ 100000) : Calls Tryz.prog 74 #[.pointer (some ⟨p, 0, none⟩), .slice A n c] W fun e w' => e = .returned (.bool (fitsD (gs.map SegW.d) n)) ∧ ∃ k, w' = W.drewN k := by
  obtain ⟨hpl, c0, c1, _⟩ := h.block.facts
  have CN := Lib.hid (fun k => show Calls Tryz.prog 76 #[.slice A n c] (W.drewN k) (fun e w' => e = .returned (.int .i64 ((needD n : Nat) : Int)) ∧ w' = W.drewN k) from (need_any A n c hn (W.drewN k)).mono fun _ _ ⟨h1, h2⟩ => ⟨h1, h2.symm⟩)
  by_cases hg : gs = []
  · subst hg
    obtain ⟨A2, c2, rfl, _, _⟩ := h.vform
    clear h hs
    simp only [List.length_nil] at c1
    go_enter Tryz.func74, Tryz.ntmps74
    go_wp2_with fail
    go_quiet (fail)
    go_wp2_with fail
    go_ret
    exact ⟨rfl, _, rfl⟩
  · have hp := List.length_pos_iff.2 hg
    obtain ⟨b, cc, rfl, hb, _, _, d2, _⟩ := h.cells (gs.length - 1) (by omega)
    have hsec := hs _ (List.getElem_mem (show gs.length - 1 < gs.length by omega))
    have hF := Lib.hid (show fitsD (gs.map SegW.d) n = decide ((gs[gs.length - 1]'(by omega)).d.sectors + needD n ≤ 63) from by unfold fitsD; rw [last_of hg])
    generalize gs[gs.length - 1]'(by omega) = g at *
    generalize g.d.sectors = sc at *
    obtain ⟨L, hL⟩ : ∃ L, gs.length = L := ⟨_, rfl⟩
    rw [hL] at c1 d2 hp hmax
    have hnd : needD n ≤ 2000 := by unfold needD; omega
    have hF2 := Lib.hid (show fitsD (gs.map SegW.d) n = decide ((sc : Int) + ((needD n : Nat) : Int) ≤ 63) from by
      rw [hF.out, decide_eq_decide]; omega)
    generalize needD n = nd at *
    obtain ⟨K, rfl⟩ : ∃ K, L = K + 1 := ⟨L - 1, by omega⟩
    simp only [Nat.add_sub_cancel] at d2
    have hsc : sc ≤ 63 := hsec
    have q0 : decide ((0 : Int) < (K : Int) + 1) = true := decide_eq_true (by omega)
    have k1 : (K : Int) < (K : Int) + 1 := by omega
    have k0 : (0 : Int) ≤ (K : Int) := by omega
    have hK0 : (-1000000 : Int) ≤ (K : Int) := by omega
    have hK1 : (K : Int) ≤ 1000000 := by omega
    have hS0 : (-1000000 : Int) ≤ (sc : Int) + (nd : Int) := by omega
    have hS1 : (sc : Int) + (nd : Int) ≤ 1000000 := by omega
    have wK := small_w (K : Int) hK0 hK1
    have vK := small_v (K : Int) hK0 hK1
    have w1 := small_w ((sc : Int) + (nd : Int)) hS0 hS1
    have v1 := small_v ((sc : Int) + (nd : Int)) hS0 hS1
    clear hK0 hK1 hS0 hS1
    clear h hs hF hg hL hsec hnd hsc hp hb hmax
    cases hq : decide ((sc : Int) + (nd : Int) ≤ 63)
    all_goals
      have HQ := Lib.hid (hF2.out.trans hq)
      go_enter Tryz.func74, Tryz.ntmps74
      go_wp2_with fail
      go_quiet ((go_at_call 76; (with_reducible refine Calls.quiet_of_same (CN.out _))))
      go_wp2_with fail
      go_ret
      exact ⟨by rw [HQ.out]; rfl, _, rfl⟩
end
end Go.Proofs.YtcpanaokfbojnaaGreatDoor

/- The document's own store: Take. -/
namespace Go.Proofs.YtcpanaokfbojnaaGreatDoor
open Go.RowKit Tide

theorem infoG : (Tryz.prog.info? 102).map (fun i => (i.zero, i.size, i.bytes)) = some (some (.agg #[.int .i64 0, .int .i64 0, .int .i64 0, .slice none 0 0]), 4, 48) := by kernel_rfl
theorem taken_snoc (gs : List SegW) (j : Nat) (h : j < gs.length) (p : Int) : takenB ((gs.take (j + 1)).map SegW.d) p = (takenB ((gs.take j).map SegW.d) p || ((gs[j]).d.place : Int) == p) := by
  rw [List.take_succ_eq_append_getElem h, List.map_append]
  unfold takenB
  rw [List.any_append]
  simp

theorem scan_step (gs : List SegD) (P k : Nat) : scanD gs P (k + 1) = if takenB gs ((P : Int) - 1 - k) then scanD gs P k else (P : Int) - 1 - k := rfl
theorem own_obj {W : World} {base : Nat} {e : TypeId} {size n k : Nat} {v : Value} {xs : List Value} (h : W.ownsRow base e size v n xs) (hv : v.ownBlock = some k) : ∃ cur, W.heap[k]? = some (.cells cur e (0, 0)) := by
  rcases h.2 with ⟨rfl, _⟩ | ⟨g, cap, cur, rfl, _, hg, _⟩
  · cases hv
  · have : g = k := by simpa [Value.ownBlock] using hv
    subst this
    exact ⟨cur, hg⟩
theorem own_ne {W : World} {base base' : Nat} {e e' : TypeId} {size size' n n' : Nat} {v v' : Value} {xs xs' : List Value} (h : W.ownsRow base e size v n xs) (h' : W.ownsRow base' e' size' v' n' xs') (hne : e ≠ e') : ∀ k, v.ownBlock = some k → v'.ownBlock ≠ some k := fun k hk hk' => by
  obtain ⟨c, h1⟩ := own_obj h hk
  obtain ⟨c', h2⟩ := own_obj h' hk'
  rw [h1] at h2
  injection h2 with h2
  injection h2 with _ h2 _
  exact hne h2
theorem two_ne {W : World} {base : Nat} {e t : TypeId} {size n g : Nat} {v x y : Value} {xs : List Value} (h : Two W g t x y) (h' : W.ownsRow base e size v n xs) (hne : t ≠ e) : v.ownBlock ≠ some g := fun hk => by
  obtain ⟨c, h1⟩ := own_obj h' hk
  rw [show W.heap[g]? = _ from h] at h1
  injection h1 with h1
  injection h1 with _ h1 _
  exact hne h1
section
variable {W : World} {F S : Nat → Prop} {p places : Nat} {gs : List SegW} {vs : Value}
theorem RefW.snoc (h : RefW W F S p places gs vs) {W1 W9 : World} (hb : Below W.heap.size W W1) (hg : W1.grownBy W9 vs.ownBlock) {g cap : Nat} (x : SegD) (hx : x.recs = [])
    (hown : W9.ownsRow 0 102 4 (.slice (some ⟨g, 0, none⟩) (gs.length + 1) cap) (gs.length + 1) (gs.flatMap SegW.cells ++ [.int .i64 (x.place : Int), .int .i64 (x.number : Int), .int .i64 (x.sectors : Int), .slice none 0 0])) (hat : vs.ownBlock = some g ∨ g = W1.heap.size) :
    ∃ F', RefW (W9.setCell ⟨p, 1, none⟩ (.slice (some ⟨g, 0, none⟩) (gs.length + 1) cap)) F' S p places (gs ++ [⟨x, .slice none 0 0, []⟩]) (.slice (some ⟨g, 0, none⟩) (gs.length + 1) cap) ∧ (∀ k, F' k → F k ∨ W.heap.size ≤ k) ∧ Kept F W (W9.setCell ⟨p, 1, none⟩ (.slice (some ⟨g, 0, none⟩) (gs.length + 1) cap)) := by
  have hg2 := (hown.lt g rfl).2
  have hpl := h.block.lt
  have hz1 := hb.size
  have hz9 := hg.size
  have hK1 : Kept (fun k => vs.ownBlock = some k) W1 W9 := (Kept.refl _ _).grown hg (fun k e => .inl e)
  have hK : Kept (fun k => vs.ownBlock = some k) W W9 := (Kept.of_below hb).trans hK1 (fun k e => .inl e)
  have hvl : ∀ k, vs.ownBlock = some k → k < W.heap.size := fun k e => h.lt k (.inl (h.fp.2 k e))
  have hpv : vs.ownBlock ≠ some p := two_ne h.block h.segs (by decide)
  have hKp : Kept (fun k => k = p) W9 (W9.setCell ⟨p, 1, none⟩ (.slice (some ⟨g, 0, none⟩) (gs.length + 1) cap)) := (Kept.refl (fun k => k = p) W9).setCell (p := ⟨p, 1, none⟩) (.inl rfl) _
  have hgp : g ≠ p := by
    rcases hat with e | e
    · intro e2; subst e2; exact hpv e
    · omega
  have hall : Kept (fun k => vs.ownBlock = some k ∨ k = p) W (W9.setCell ⟨p, 1, none⟩ (.slice (some ⟨g, 0, none⟩) (gs.length + 1) cap)) := (hK.mono (fun k _ e => .inl e)).setCell (.inl (.inr rfl)) _
  have hrow : ∀ {e : TypeId} {size n : Nat} {v : Value} {xs : List Value}, W.ownsRow 0 e size v n xs → 102 ≠ e → 74 ≠ e → (W9.setCell ⟨p, 1, none⟩ (.slice (some ⟨g, 0, none⟩) (gs.length + 1) cap)).ownsRow 0 e size v n xs := fun ho h1 h2 =>
    hall.own ho (fun k e hk => hk.elim (fun hk => own_ne h.segs ho h1 k hk e) (fun hk => by subst hk; exact two_ne h.block ho h2 e))
  refine ⟨fun k => F k ∨ (W.heap.size ≤ k ∧ k < W9.heap.size), { block := ?_, segs := ?_, rows := ?_, fp := ?_, lt := ?_, apart := ?_ }, ?_, ?_⟩
  · exact (h.block.kept hK hpv).setB _
  · rw [List.length_append, List.flatMap_append]
    exact hKp.own hown (fun k e => by cases e; exact hgp)
  · intro y hy
    rcases List.mem_append.1 hy with hy | hy
    · obtain ⟨r1, r2, r3, r4⟩ := h.rows y hy
      exact ⟨hrow r1 (by decide) (by decide), fun k e => .inl (r2 k e), r3, fun i u b hu hb => ⟨hrow (r4 i u b hu hb).1 (by decide) (by decide), (r4 i u b hu hb).2⟩⟩
    · simp only [List.mem_singleton] at hy
      subst hy
      exact ⟨⟨rfl, .inl ⟨rfl, rfl⟩⟩, (fun k e => by cases e), (by rw [hx]; rfl), (fun i u b hu _ => by cases hu)⟩
  · refine ⟨.inl h.fp.1, fun k e => ?_⟩
    have e : g = k := by simpa [Value.ownBlock] using e
    subst e
    rcases hat with e | e
    · exact .inl (h.fp.2 _ e)
    · exact .inr ⟨by omega, hg2⟩
  · intro k hk
    have hz : (W9.setCell ⟨p, 1, none⟩ (.slice (some ⟨g, 0, none⟩) (gs.length + 1) cap)).heap.size = W9.heap.size := by simp [World.setCell]
    rw [hz]
    rcases hk with (hk | hk) | hk
    · have := h.lt k (.inl hk); omega
    · exact hk.2
    · have := h.lt k (.inr hk); omega
  · refine List.pairwise_append.2 ⟨h.apart, by simp, fun a _ b hb k _ e => ?_⟩
    simp only [List.mem_singleton] at hb
    subst hb
    cases e
  · rintro k (hk | hk)
    · exact .inl hk
    · exact .inr hk.1
  · exact (hK.mono (fun k _ e => h.fp.2 k e)).setCell (.inl h.fp.1) _
theorem RefW.grown {W9 : World} (h : RefW W F S p places gs vs) (hg : W.grownBy W9 vs.ownBlock) : W9.cell? ⟨p, 1, none⟩ = some vs ∧ W9.frozen? ⟨p, 1, none⟩ = false ∧ p < W9.heap.size := by
  have hK : Kept (fun k => vs.ownBlock = some k) W W9 := (Kept.refl _ _).grown hg (fun k e => .inl e)
  obtain ⟨h1, _, h2, h3⟩ := (h.block.kept hK (two_ne h.block h.segs (by decide))).facts
  exact ⟨h2, h3 1, h1⟩
theorem RefW.last {L K : Nat} (h : RefW W F S p places gs vs) (hL : gs.length = L) (hK : L = K + 1) : ∃ b c no, vs = .slice (some ⟨b, 0, none⟩) L c ∧ b < W.heap.size ∧ W.cell? ⟨b, K * 4 + 1, none⟩ = some (.int .i64 ((no : Nat) : Int)) ∧ lastNo (gs.map SegW.d) = (no : Int) ∧ ∃ g ∈ gs, no = g.d.number := by
  subst hK
  obtain ⟨b, c, hv, hb, _, d1, _, _⟩ := h.cells K (by omega)
  have hne : gs ≠ [] := by intro e; subst e; simp at hL
  refine ⟨b, c, (gs[K]).d.number, by rw [hv, hL], hb, d1, ?_, gs[K], List.getElem_mem _, rfl⟩
  unfold lastNo
  rw [last_of hne]
  have : gs.length - 1 = K := by omega
  simp only [this]
def TakeR (W : World) (F S : Nat → Prop) (p places : Nat) (gs : List SegW) (e : Ending) (w' : World) : Prop :=
  (scanD (gs.map SegW.d) places places < 0 ∧ e = .returned (.bool false) ∧ Below W.heap.size W w') ∨
    (0 ≤ scanD (gs.map SegW.d) places places ∧ e = .returned (.bool true) ∧ ∃ F' vs', RefW w' F' S p places (gs ++ [⟨⟨(scanD (gs.map SegW.d) places places).toNat, (lastNo (gs.map SegW.d) + 1).toNat, 0, []⟩, .slice none 0 0, []⟩]) vs' ∧ (∀ k, F' k → F k ∨ W.heap.size ≤ k) ∧ Kept F W w')
set_option maxRecDepth 100000 in
set_option maxHeartbeats 2000000 in
theorem take_any (h : RefW W F S p places gs vs) (hP : places ≤ 1000) (hmax : gs.length ≤ 1000) (hno : ∀ g ∈ gs, g.d.number ≤ 100000) : Calls Tryz.prog 75 #[.pointer (some ⟨p, 0, none⟩)] W (TakeR W F S p places gs) := by
  obtain ⟨hpl, c0, c1, _⟩ := h.block.facts
  obtain ⟨A, c, rfl, _, _⟩ := h.vform
  have H := Lib.hid h
  have HM := Lib.hid hmax
  have HNo := Lib.hid hno
  clear h hmax hno
  have hP0 : (-1000000 : Int) ≤ (places : Int) - 1 := by omega
  have hP1 : (places : Int) - 1 ≤ 1000000 := by omega
  have wP := small_w _ hP0 hP1
  have vP := small_v _ hP0 hP1
  clear hP0 hP1
  go_enter Tryz.func75, Tryz.ntmps75
  go_wp2_with fail
  clear wP vP
  go_loopw [3, 4] (fun u i wr => ∃ k : Nat, i = .int .i64 ((places : Int) - 1 - k) ∧ u = .int .i64 (scanD (gs.map SegW.d) places k) ∧ k ≤ places ∧ Hid (Below W.heap.size W wr)) (fun _ i _ => (intOf i + 1).toNat)
  case atStart => exact ⟨0, by simp, rfl, Nat.zero_le _, Lib.hid (Below.refl _ _)⟩
  case round =>
    obtain ⟨k, rfl, rfl, hk, hb⟩ := hrel
    have c1r := (hb.out.cell (p := ⟨p, 1, none⟩) hpl).trans c1
    obtain ⟨q, hq⟩ : ∃ q : Int, (places : Int) - 1 - k = q := ⟨_, rfl⟩
    have HQ := Lib.hid hq
    have HSc := Lib.hid (scan_step (gs.map SegW.d) places k)
    rw [hq] at HSc ⊢
    by_cases hlt : k < places
    · have q0 : decide (0 ≤ q) = true := decide_eq_true (by omega)
      have hq0 : (-1000000 : Int) ≤ q - 1 := by omega
      have hq1 : q - 1 ≤ 1000000 := by omega
      have HW := Lib.hid (And.intro (small_w _ hq0 hq1) (small_v _ hq0 hq1))
      generalize scanD (gs.map SegW.d) places k = sc at *
      clear hq0 hq1 hq
      go_wp2_with fail
      go_loopw [5, 24] (fun u i wr2 => ∃ j : Nat, i = .int .i64 j ∧ u = .bool (takenB ((gs.take j).map SegW.d) q) ∧ j ≤ gs.length ∧ Hid (Below W.heap.size W wr2)) (fun _ i _ => gs.length - (intOf i).toNat)
      case atStart => exact ⟨0, rfl, rfl, Nat.zero_le _, hb⟩
      case round =>
        obtain ⟨j, rfl, rfl, hj, hb2⟩ := hrel
        by_cases hlj : j < gs.length
        · obtain ⟨bb, cc, hv, hbb, d0, d1, d2, d3⟩ := (H.out.below hb2.out).cells j hlj
          injection hv with e1 _ e3
          subst e1 e3
          obtain ⟨Av, cv, hvr, _, _⟩ := H.out.vr_form (List.getElem_mem hlj)
          have HT := Lib.hid (taken_snoc gs j hlj q)
          generalize gs[j] = g at *
          rw [hvr] at d3
          generalize takenB ((gs.take j).map SegW.d) q = tk at *
          cases tk with
          | true =>
            have HT2 := Lib.hid (show takenB ((gs.take (j + 1)).map SegW.d) q = true from by rw [HT.out, Bool.true_or])
            have HB2 := Lib.hid (hb2.out.alloc hb2.out.size (.cells #[.int .i64 (g.d.place : Int), .int .i64 (g.d.number : Int), .int .i64 (g.d.sectors : Int), .slice Av g.rs.length cv] 102))
            go_wp2_with fail
            go_roundw
            case rel => exact ⟨j + 1, by go_num, by rw [HT2.out], by omega, HB2⟩
            case measure => simp [intOf]; omega
          | false =>
            have HB2 := Lib.hid (hb2.out.alloc hb2.out.size (.cells #[.int .i64 (g.d.place : Int), .int .i64 (g.d.number : Int), .int .i64 (g.d.sectors : Int), .slice Av g.rs.length cv] 102))
            cases hpq : ((g.d.place : Int) == q) with
            | true =>
              have HT2 := Lib.hid (show takenB ((gs.take (j + 1)).map SegW.d) q = true from by rw [HT.out, hpq]; rfl)
              go_wp2_with fail
              go_roundw
              case rel => exact ⟨j + 1, by go_num, by rw [HT2.out], by omega, HB2⟩
              case measure => simp [intOf]; omega
            | false =>
              have HT2 := Lib.hid (show takenB ((gs.take (j + 1)).map SegW.d) q = false from by rw [HT.out, hpq]; rfl)
              go_wp2_with fail
              go_roundw
              case rel => exact ⟨j + 1, by go_num, by rw [HT2.out], by omega, HB2⟩
              case measure => simp [intOf]; omega
        · have hje : j = gs.length := by omega
          subst hje
          rw [List.take_length]
          have hw := HW.out
          obtain ⟨hw1, hw2⟩ := hw
          cases htk : takenB (gs.map SegW.d) q with
          | true =>
            have HSc2 := Lib.hid (show scanD (gs.map SegW.d) places (k + 1) = sc from by rw [HSc.out, htk, if_pos rfl])
            go_wp2_with fail
            clear hw1 hw2
            go_roundw
            case rel => exact ⟨k + 1, by rw [← HQ.out]; congr 1; omega, by rw [HSc2.out], by omega, hb2⟩
            case measure => have := HQ.out; simp [intOf]; omega
          | false =>
            have HSc2 := Lib.hid (show scanD (gs.map SegW.d) places (k + 1) = q from by rw [HSc.out, htk]; rfl)
            go_wp2_with fail
            clear hw1 hw2
            go_roundw
            case rel => exact ⟨k + 1, by rw [← HQ.out]; congr 1; omega, by rw [HSc2.out], by omega, hb2⟩
            case measure => have := HQ.out; simp [intOf]; omega
    · have hke : k = places := by omega
      subst hke
      have q0 : decide (0 ≤ q) = false := decide_eq_false (by omega)
      clear hq
      obtain ⟨sc, hsc⟩ : ∃ sc, scanD (gs.map SegW.d) k k = sc := ⟨_, rfl⟩
      have HSC := Lib.hid hsc
      rw [hsc] at HSc ⊢
      have hlow := scan_low (gs.map SegW.d) k k (Nat.le_refl _)
      rw [hsc] at hlow
      clear hsc
      by_cases hneg : sc < 0
      · have q1 : decide (sc < 0) = true := decide_eq_true hneg
        have HNeg := Lib.hid hneg
        clear hneg hlow
        go_wp2_with fail
        go_ret
        exact .inl ⟨by rw [HSC.out]; exact HNeg.out, rfl, hb.out⟩
      · have q1 : decide (sc < 0) = false := decide_eq_false hneg
        have HNeg := Lib.hid (show 0 ≤ sc by omega)
        obtain ⟨at', rfl⟩ : ∃ a : Nat, sc = (a : Int) := ⟨sc.toNat, by omega⟩
        clear hneg hlow
        obtain ⟨i0, hinf, hz0, hz1, hz2⟩ := info_parts infoG
        have HIn := Lib.hid hinf
        clear hinf
        have hpr := Nat.lt_of_lt_of_le hpl hb.out.size
        obtain ⟨L, hL⟩ : ∃ L, gs.length = L := ⟨_, rfl⟩
        have HSegs := Lib.hid (show W.ownsRow 0 102 4 (.slice A L c) L (gs.flatMap SegW.cells) from by have := H.out.segs; rwa [hL] at this)
        have HL := Lib.hid hL
        have HLm := Lib.hid (show L ≤ 1000 from by have := HM.out; omega)
        rw [hL] at c1r
        clear hL
        by_cases hg0 : L = 0
        · have q2 : decide ((0 : Int) < (L : Int)) = false := decide_eq_false (by omega)
          have q2n : decide (0 < L) = false := decide_eq_false (by omega)
          have q3n : ¬ 0 < L := by omega
          have HNo0 := Lib.hid (show lastNo (gs.map SegW.d) + 1 = 0 from by
            have : gs = [] := List.eq_nil_of_length_eq_zero (by rw [HL.out]; exact hg0)
            subst this; rfl)
          clear hg0
          go_wp2_with (at_builtin; refine wpList_append_lies _ rfl (.tmp 62) (.tmp 66) _ rfl 0 102 i0 _ 4 48 Tryz.underlying72 HIn.out hz0 hz1 hz2 rfl (by omega) _ L (gs.flatMap SegW.cells) rfl ?d0 _ 1 _ [.int .i64 (at' : Int), .int .i64 0, .int .i64 0, .slice none 0 0] rfl rfl ?d2 ?d3 (by omega) ?d4 ?d5 ?d6 _ rfl ?_)
          case d0 => exact own_below (own_below HSegs.out hb.out) ((Below.refl _ _).alloc (Nat.le_refl _) _)
          case d2 => exact fun j u hu => World.news_of_block (heap_alloc_new wr _) j u (by simpa using hu)
          case d3 => intro u hu; simp only [List.mem_cons, List.not_mem_nil, or_false] at hu; rcases hu with rfl | rfl | rfl | rfl <;> rfl
          case d4 => unfold maxLen; have := HLm.out; omega
          case d5 => have := HLm.out; omega
          case d6 => exact Nat.zero_le _
          intro g cap w9 h1 h2 h3 h4
          have hba := hb.out.alloc hb.out.size (.cells #[.int .i64 (at' : Int), .int .i64 0, .int .i64 0, .slice none 0 0] 102)
          obtain ⟨e1, e2, e3⟩ := (H.out.below hba).grown (by rw [HL.out]; exact h2)
          have HX := Lib.hid (H.out.snoc (g := g) (cap := cap) hba (by rw [HL.out]; exact h2) ⟨at', 0, 0, []⟩ rfl (by rw [HL.out]; exact h1) (by rw [HL.out, World.size_alloc]; exact h3))
          clear h1 h2 h3 h4 hba
          rw [HL.out] at e1
          go_wp2_with fail
          go_ret
          obtain ⟨F', r1, r2, r3⟩ := HX.out
          rw [HL.out] at r1 r3
          refine .inr ⟨by rw [HSC.out]; omega, rfl, F', .slice (some ⟨g, 0, none⟩) (L + 1) cap, ?_, r2, r3⟩
          rw [HSC.out, HNo0.out]
          exact r1
        · obtain ⟨K, hK⟩ : ∃ K, L = K + 1 := ⟨L - 1, by omega⟩
          obtain ⟨bb, cc, no, hv, hbb, d1, hlast, gx, hgx, hno⟩ := H.out.last HL.out hK
          injection hv with e1 _ e3
          subst e1 e3
          have hnb : no ≤ 100000 := by rw [hno]; exact HNo.out gx hgx
          have HNo0 := Lib.hid (show (lastNo (gs.map SegW.d) + 1).toNat = no + 1 from by rw [hlast]; omega)
          have d1r := (hb.out.cell (p := ⟨bb, K * 4 + 1, none⟩) hbb).trans d1
          have q2 : decide ((0 : Int) < (L : Int)) = true := decide_eq_true (by omega)
          subst hK
          have k1 : (K : Int) < (K : Int) + 1 := by omega
          have k0 : (0 : Int) ≤ (K : Int) := by omega
          have q2' : decide ((0 : Int) < (K : Int) + 1) = true := decide_eq_true (by omega)
          have hK0 : (-1000000 : Int) ≤ (K : Int) := by omega
          have hK1 : (K : Int) ≤ 1000000 := by have := HLm.out; omega
          have hn0 : (-1000000 : Int) ≤ (no : Int) + 1 := by omega
          have hn1 : (no : Int) + 1 ≤ 1000000 := by omega
          have wK := small_w _ hK0 hK1
          have vK := small_v _ hK0 hK1
          have w1 := small_w _ hn0 hn1
          have v1 := small_v _ hn0 hn1
          clear hK0 hK1 hn0 hn1 hg0 hlast hno hnb d1 hgx
          go_wp2_with (at_builtin; refine wpList_append_lies _ rfl (.tmp 62) (.tmp 66) _ rfl 0 102 i0 _ 4 48 Tryz.underlying72 HIn.out hz0 hz1 hz2 rfl (by omega) _ (K + 1) (gs.flatMap SegW.cells) rfl ?d0 _ 1 _ [.int .i64 (at' : Int), .int .i64 ((no : Int) + 1), .int .i64 0, .slice none 0 0] rfl rfl ?d2 ?d3 (by omega) ?d4 ?d5 ?d6 _ rfl ?_)
          case d0 => exact own_below (own_below HSegs.out hb.out) ((Below.refl _ _).alloc (Nat.le_refl _) _)
          case d2 => exact fun j u hu => World.news_of_block (heap_alloc_new wr _) j u (by simpa using hu)
          case d3 => intro u hu; simp only [List.mem_cons, List.not_mem_nil, or_false] at hu; rcases hu with rfl | rfl | rfl | rfl <;> rfl
          case d4 => clear wK vK w1 v1; unfold maxLen; have := HLm.out; omega
          case d5 => clear wK vK w1 v1; have := HLm.out; omega
          case d6 => exact Nat.zero_le _
          intro g cap w9 h1 h2 h3 h4
          clear wK vK w1 v1
          have hba := hb.out.alloc hb.out.size (.cells #[.int .i64 (at' : Int), .int .i64 ((no : Int) + 1), .int .i64 0, .slice none 0 0] 102)
          obtain ⟨e1, e2, e3⟩ := (H.out.below hba).grown (by rw [HL.out]; exact h2)
          have HX := Lib.hid (H.out.snoc (g := g) (cap := cap) hba (by rw [HL.out]; exact h2) ⟨at', no + 1, 0, []⟩ rfl (by rw [HL.out]; exact h1) (by rw [HL.out, World.size_alloc]; exact h3))
          clear h1 h2 h3 h4 hba
          rw [HL.out] at e1
          go_wp2_with fail
          go_ret
          obtain ⟨F', r1, r2, r3⟩ := HX.out
          rw [HL.out] at r1 r3
          refine .inr ⟨by rw [HSC.out]; omega, rfl, F', .slice (some ⟨g, 0, none⟩) (K + 1 + 1) cap, ?_, r2, r3⟩
          rw [HSC.out, HNo0.out]
          exact r1
end
end Go.Proofs.YtcpanaokfbojnaaGreatDoor

/- A store in memory behind a record more: its last segment's cells are others. -/
namespace Go.Proofs.YtcpanaokfbojnaaGreatDoor
open Go.RowKit Tide

theorem own_set {W : World} {base g n cap : Nat} {e : TypeId} {size : Nat} {xs : List Value} (h : W.ownsRow base e size (.slice (some ⟨g, 0, none⟩) n cap) n xs) (i : Nat) (v : Value) : (W.setCell ⟨g, i, none⟩ v).ownsRow base e size (.slice (some ⟨g, 0, none⟩) n cap) n (xs.set i v) := by
  refine ⟨by rw [List.length_set]; exact h.1, ?_⟩
  rcases h.2 with ⟨h1, _⟩ | ⟨g', cap', cur, h1, hb, hg, h2, h3, h4, h5⟩
  · cases h1
  · injection h1 with e1 _ e3
    injection e1 with e1
    injection e1 with e1 _
    subst e1 e3
    obtain ⟨hlt, hk⟩ := Array.getElem?_eq_some_iff.1 hg
    refine .inr ⟨g, cap, cur.setIfInBounds i v, rfl, hb, ?_, h2, h3, by rw [Array.size_setIfInBounds]; exact h4, ?_⟩
    · show (W.heap.modify g _)[g]? = _
      rw [Array.getElem?_eq_getElem (by rw [Array.size_modify]; exact hlt), Array.getElem_modify_self, hk]
      simp
    · rw [Array.toList_setIfInBounds, ← h5, List.take_set]
theorem cells_set (l : List SegW) (x y : SegW) (j : Nat) (v : Value) (hj : j < 4) (h : x.cells.set j v = y.cells) : ((l ++ [x]).flatMap SegW.cells).set (l.length * 4 + j) v = (l ++ [y]).flatMap SegW.cells := by
  have hl := segs_len l
  rw [List.flatMap_append, List.flatMap_append, List.set_append, if_neg (by omega), hl, Nat.add_sub_cancel_left]
  congr 1

section
variable {W W' : World} {F S : Nat → Prop} {p places : Nat} {l : List SegW} {x y : SegW} {bs c : Nat}
theorem RefW.reset (h : RefW W F S p places (l ++ [x]) (.slice (some ⟨bs, 0, none⟩) (l.length + 1) c)) (v : Value) (j : Nat) (hj : j < 4) (hy : x.cells.set j v = y.cells) (hd : y.d.recs = x.d.recs) (hvr : y.vr = x.vr) (hrs : y.rs = x.rs) :
    RefW (W.setCell ⟨bs, l.length * 4 + j, none⟩ v) F S p places (l ++ [y]) (.slice (some ⟨bs, 0, none⟩) (l.length + 1) c) ∧ Kept F W (W.setCell ⟨bs, l.length * 4 + j, none⟩ v) := by
  have hlen : (l ++ [x]).length = l.length + 1 := by simp
  have hseg := h.segs
  rw [hlen] at hseg
  have hK : Kept (fun k => k = bs) W (W.setCell ⟨bs, l.length * 4 + j, none⟩ v) := (Kept.refl (fun k => k = bs) W).setCell (p := ⟨bs, l.length * 4 + j, none⟩) (.inl rfl) v
  have hbs : p ≠ bs := fun e => two_ne h.block hseg (by decide) (by rw [e]; rfl)
  have hrow : ∀ {e : TypeId} {size n : Nat} {u : Value} {xs : List Value}, W.ownsRow 0 e size u n xs → 102 ≠ e → (W.setCell ⟨bs, l.length * 4 + j, none⟩ v).ownsRow 0 e size u n xs := fun ho h1 =>
    hK.own ho (fun k e hk => by subst hk; exact own_ne hseg ho h1 _ rfl e)
  have hin : ∀ z ∈ l ++ [x], ∀ G : Nat → Prop, (∀ k, F k → G k) → (W.setCell ⟨bs, l.length * 4 + j, none⟩ v).ownsRow 0 45 1 z.vr z.rs.length z.rs ∧ (∀ k, z.vr.ownBlock = some k → G k) ∧ RecRows (W.setCell ⟨bs, l.length * 4 + j, none⟩ v) S z.rs z.d.recs := fun z hz G hG => by
    obtain ⟨r1, r2, r3, r4⟩ := h.rows z hz
    exact ⟨hrow r1 (by decide), fun k e => hG k (r2 k e), r3, fun i u b hu hb => ⟨hrow (r4 i u b hu hb).1 (by decide), (r4 i u b hu hb).2⟩⟩
  refine ⟨{ block := h.block.kept hK hbs, segs := ?_, rows := ?_, fp := h.fp, lt := fun k hf => Nat.lt_of_lt_of_le (h.lt k hf) hK.size, apart := ?_ }, hK.mono (fun k _ e => by subst e; exact h.fp.2 _ rfl)⟩
  · have := own_set hseg (l.length * 4 + j) v
    rw [cells_set l x y j v hj hy] at this
    rw [List.length_append, List.length_singleton]
    exact this
  · intro z hz
    rcases List.mem_append.1 hz with hz | hz
    · exact hin z (List.mem_append.2 (.inl hz)) F (fun _ h => h)
    · simp only [List.mem_singleton] at hz
      subst hz
      have := hin x (by simp) F (fun _ h => h)
      rw [hvr, hrs, hd]
      exact this
  · have := h.apart
    rw [List.pairwise_append] at this ⊢
    refine ⟨this.1, by simp, fun a ha b hb => ?_⟩
    simp only [List.mem_singleton] at hb
    subst hb
    rw [hvr]
    exact this.2.2 a ha x (by simp)
theorem RefW.rerec (h : RefW W F S p places (l ++ [x]) (.slice (some ⟨bs, 0, none⟩) (l.length + 1) c)) {W1 W9 : World} (hb : Below W.heap.size W W1) {u : Value} {b : List UInt8} (hu : W1.ownsRow W.heap.size 5 1 u b.length (u8s b)) (hg : W1.grownBy W9 x.vr.ownBlock) {g cap : Nat}
    (hown : W9.ownsRow 0 45 1 (.slice (some ⟨g, 0, none⟩) (x.rs.length + 1) cap) (x.rs.length + 1) (x.rs ++ [u])) (hat : x.vr.ownBlock = some g ∨ g = W1.heap.size) (hy : y.d = { x.d with recs := x.d.recs ++ [b] }) (hvr : y.vr = .slice (some ⟨g, 0, none⟩) (x.rs.length + 1) cap) (hrs : y.rs = x.rs ++ [u]) :
    ∃ F' S', RefW (W9.setCell ⟨bs, l.length * 4 + 3, none⟩ (.slice (some ⟨g, 0, none⟩) (x.rs.length + 1) cap)) F' S' p places (l ++ [y]) (.slice (some ⟨bs, 0, none⟩) (l.length + 1) c) ∧ (∀ k, F' k → F k ∨ W.heap.size ≤ k) ∧ (∀ k, S' k → S k ∨ W.heap.size ≤ k) ∧ Kept F W (W9.setCell ⟨bs, l.length * 4 + 3, none⟩ (.slice (some ⟨g, 0, none⟩) (x.rs.length + 1) cap)) := by
  have hlen : (l ++ [x]).length = l.length + 1 := by simp
  have hseg := h.segs
  rw [hlen] at hseg
  obtain ⟨x1, x2, x3, x4⟩ := h.rows x (by simp)
  have hz1 := hb.size
  have hz9 := hg.size
  have hg2 := (hown.lt g rfl).2
  have hK1 : Kept (fun k => x.vr.ownBlock = some k) W1 W9 := (Kept.refl _ _).grown hg (fun k e => .inl e)
  have hK : Kept (fun k => x.vr.ownBlock = some k) W W9 := (Kept.of_below hb).trans hK1 (fun k e => .inl e)
  have hvl : ∀ k, x.vr.ownBlock = some k → k < W.heap.size := fun k e => h.lt k (.inl (x2 k e))
  have hbsl : bs < W.heap.size := (hseg.lt bs rfl).2
  have hpl := h.block.lt
  have hbs : p ≠ bs := fun e => two_ne h.block hseg (by decide) (by rw [e]; rfl)
  have hvb : x.vr.ownBlock ≠ some bs := own_ne hseg x1 (by decide) bs rfl
  have hvp : x.vr.ownBlock ≠ some p := two_ne h.block x1 (by decide)
  have hgb : g ≠ bs := by
    rcases hat with e | e
    · intro e2; subst e2; exact hvb e
    · omega
  have hKb : Kept (fun k => k = bs) W9 (W9.setCell ⟨bs, l.length * 4 + 3, none⟩ (.slice (some ⟨g, 0, none⟩) (x.rs.length + 1) cap)) := (Kept.refl (fun k => k = bs) W9).setCell (p := ⟨bs, l.length * 4 + 3, none⟩) (.inl rfl) _
  have hall : Kept (fun k => x.vr.ownBlock = some k ∨ k = bs) W (W9.setCell ⟨bs, l.length * 4 + 3, none⟩ (.slice (some ⟨g, 0, none⟩) (x.rs.length + 1) cap)) := (hK.mono (fun k _ e => .inl e)).setCell (.inl (.inr rfl)) _
  have hbytes : ∀ {size n : Nat} {v : Value} {xs : List Value}, W.ownsRow 0 5 size v n xs → (W9.setCell ⟨bs, l.length * 4 + 3, none⟩ (.slice (some ⟨g, 0, none⟩) (x.rs.length + 1) cap)).ownsRow 0 5 size v n xs := fun ho =>
    hall.own ho (fun k e hk => hk.elim (fun hk => own_ne x1 ho (by decide) k hk e) (fun hk => by subst hk; exact own_ne hseg ho (by decide) _ rfl e))
  refine ⟨fun k => F k ∨ (W.heap.size ≤ k ∧ k < W9.heap.size), fun k => S k ∨ (W.heap.size ≤ k ∧ k < W9.heap.size), { block := ?_, segs := ?_, rows := ?_, fp := ?_, lt := ?_, apart := ?_ }, ?_, ?_, ?_⟩
  · exact (h.block.kept hK hvp).kept hKb hbs
  · have := own_set (hK.own hseg (fun k e => by cases e; exact hvb)) (l.length * 4 + 3) (.slice (some ⟨g, 0, none⟩) (x.rs.length + 1) cap)
    rw [cells_set l x y 3 _ (by omega) (by simp [SegW.cells, hy, hvr])] at this
    rw [List.length_append, List.length_singleton]
    exact this
  · intro z hz
    rcases List.mem_append.1 hz with hz | hz
    · obtain ⟨r1, r2, r3, r4⟩ := h.rows z (List.mem_append.2 (.inl hz))
      have hap := (List.pairwise_append.1 h.apart).2.2 z hz x (by simp)
      exact ⟨hall.own r1 (fun k e hk => hk.elim (fun hk => hap k e hk) (fun hk => by subst hk; exact own_ne hseg r1 (by decide) _ rfl e)), fun k e => .inl (r2 k e), r3, fun i u b hu hb => ⟨hbytes (r4 i u b hu hb).1, fun k e => .inl ((r4 i u b hu hb).2 k e)⟩⟩
    · simp only [List.mem_singleton] at hz
      subst hz
      rw [hvr, hrs, hy]
      refine ⟨?_, ?_, ?_, ?_⟩
      · rw [List.length_append, List.length_singleton]
        exact hKb.own hown (fun k e => by cases e; exact hgb)
      · intro k e
        have e : g = k := by simpa [Value.ownBlock] using e
        subst e
        rcases hat with e | e
        · exact .inl (x2 _ e)
        · exact .inr ⟨by omega, hg2⟩
      · show (x.rs ++ [u]).length = (x.d.recs ++ [b]).length
        rw [List.length_append, List.length_append, x3]
        rfl
      · intro i w d hw hd
        by_cases hi : i < x.rs.length
        · rw [List.getElem?_append_left hi] at hw
          have hd : x.d.recs[i]? = some d := by rwa [List.getElem?_append_left (by omega)] at hd
          exact ⟨hbytes (x4 i w d hw hd).1, fun k e => .inl ((x4 i w d hw hd).2 k e)⟩
        · rw [List.getElem?_append_right (by omega)] at hw
          have hd : (x.d.recs ++ [b])[i]? = some d := hd
          rw [List.getElem?_append_right (by omega)] at hd
          have h0 : i - x.rs.length = 0 := by
            have := (List.getElem?_eq_some_iff.1 hw).1
            simp at this; omega
          rw [h0] at hw
          rw [← x3, h0] at hd
          simp only [List.getElem?_cons_zero, Option.some.injEq] at hw hd
          subst hw hd
          have hul := fun k e => hu.lt k e
          refine ⟨hKb.own (hK1.own (own_later hu (Nat.zero_le _)) (fun k e hk => by have := (hul k e).1; have := hvl k hk; omega)) (fun k e hk => by have := (hul k e).1; omega), fun k e => .inr ⟨(hul k e).1, by have := (hul k e).2; omega⟩⟩
  · exact ⟨.inl h.fp.1, fun k e => .inl (h.fp.2 k e)⟩
  · intro k hk
    have hz : (W9.setCell ⟨bs, l.length * 4 + 3, none⟩ (.slice (some ⟨g, 0, none⟩) (x.rs.length + 1) cap)).heap.size = W9.heap.size := by simp [World.setCell]
    rw [hz]
    rcases hk with (hk | hk) | (hk | hk)
    · have := h.lt k (.inl hk); omega
    · exact hk.2
    · have := h.lt k (.inr hk); omega
    · exact hk.2
  · have hap := List.pairwise_append.1 h.apart
    refine List.pairwise_append.2 ⟨hap.1, by simp, fun a ha z hz k e e2 => ?_⟩
    simp only [List.mem_singleton] at hz
    subst hz
    rw [hvr] at e2
    have e2 : g = k := by simpa [Value.ownBlock] using e2
    subst e2
    rcases hat with e3 | e3
    · exact hap.2.2 a ha x (by simp) _ e e3
    · have := h.lt _ (.inl ((h.rows a (List.mem_append.2 (.inl ha))).2.1 _ e))
      omega
  · rintro k (hk | hk)
    · exact .inl hk
    · exact .inr hk.1
  · rintro k (hk | hk)
    · exact .inl hk
    · exact .inr hk.1
  · exact (hK.mono (fun k _ e => x2 k e)).setCell (p := ⟨bs, l.length * 4 + 3, none⟩) (.inl (h.fp.2 _ rfl)) _
end
end Go.Proofs.YtcpanaokfbojnaaGreatDoor
