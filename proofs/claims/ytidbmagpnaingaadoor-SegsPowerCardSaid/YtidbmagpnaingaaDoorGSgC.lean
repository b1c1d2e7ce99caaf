/- The document's own store: Copy. -/
import Derived.Test.YtidbmagpnaingaaDoorGSgA
namespace Go.Proofs.YtidbmagpnaingaaDoor
open Go.RowKit Tide

/-- append onto a row of the call's own, of nothing (a nil slice). -/
theorem wpList_append_none {P : Program} (w : World) {ops : Array Oper} {rest : List Oper} {o : Oper} {a : Act} {Q : Exit → Act → World → Prop} (hgd : o.guard = none) (s x : Operand) (t : TypeId)
    (ho : o.op = .call { callee := .builtin .append, args := #[s, x], argTypes := #[t, t] })
    (base : Nat) (e : TypeId) (i : TypeInfo) (size : Nat) (ht : P.underlying t = some (.slice e)) (hi : P.info? e = some i)
    (v : Value) (n : Nat) (xs : List Value) (hs : a.eval s = v) (hown : w.ownsRow base e size v n xs) (hx : a.eval x = .slice none 0 0)
    (h : wpList P ops Q rest (a.put o.dst v) w) : wpList P ops Q (o :: rest) a w := by
  refine wpList_plain hgd fun K hK => ?_
  have hr := run_append_owned_none (P := P) w base t o.type e i size ht hi v n xs hown
  unfold Oper.wp execOp
  simp only [ho, resolve, invoke, builtin, Sem.run_bind, Sem.run_pure, Result.andThen_ok, List.map_toArray, List.map_cons, List.map_nil, hs, hx, hr]
  exact hK _ _ h
/-- append onto a row of the call's own, of another row whole, that may be nil. -/
theorem wpList_append_row {P : Program} (w : World) {ops : Array Oper} {rest : List Oper} {o : Oper} {a : Act} {Q : Exit → Act → World → Prop} (hgd : o.guard = none) (s x : Operand) (t : TypeId)
    (ho : o.op = .call { callee := .builtin .append, args := #[s, x], argTypes := #[t, t] })
    (base : Nat) (e : TypeId) (i : TypeInfo) (z : Value) (bytes : Nat) (ht : P.underlying t = some (.slice e)) (hi : P.info? e = some i) (hz : i.zero = some z)
    (hsize : i.size = 1) (hby : i.bytes = bytes) (hzs : z.cells.size = 1)
    (g n c0 : Nat) (xs : List Value) (hs : a.eval s = .slice (some ⟨g, 0, none⟩) n c0) (hown : w.ownsRow base e 1 (.slice (some ⟨g, 0, none⟩) n c0) n xs)
    (u : Value) (b2 m : Nat) (news : List Value) (hx : a.eval x = u) (hu : w.ownsRow b2 e 1 u m news) (h1 : ∀ u ∈ news, u.oneCell' = true)
    (h63 : n + m ≤ maxLen) (hbytes : (n + m) * bytes ≤ 140737488355328) (hbase : base ≤ w.heap.size)
    (h : ∀ g' c' w', w'.ownsRow base e 1 (.slice (some ⟨g', 0, none⟩) (n + m) c') (n + m) (xs ++ news) → Below base w w' → wpList P ops Q rest (a.put o.dst (.slice (some ⟨g', 0, none⟩) (n + m) c')) w') : wpList P ops Q (o :: rest) a w := by
  rcases hu.2 with ⟨rfl, rfl⟩ | ⟨g2, cap, cur, rfl, _⟩
  · have hn : news = [] := List.eq_nil_of_length_eq_zero (by have := hu.1; omega)
    subst hn
    refine wpList_append_none w hgd s x t ho base e i 1 ht hi _ n xs hs hown hx ?_
    have := h g c0 w (by simpa using hown) (Below.refl _ _)
    simpa using this
  · refine wpList_append_own_at w hgd s x t ho base e i z 1 bytes ht hi hz hsize hby hzs (by omega) _ n xs hs hown ⟨g2, 0, none⟩ m cap news hx (by simpa using hu.1) (hu.cells (g := g2) rfl) h1 h63 hbytes hbase ?_
    intro v' w' k1 k2 k3 k4
    have hform : ∃ g' c', v' = .slice (some ⟨g', 0, none⟩) (n + m) c' := by
      rcases k1.2 with ⟨k5, _⟩ | ⟨g', cap', cur', k5, _⟩
      · exact absurd (k3.1 k5).1 (by simp)
      · exact ⟨_, _, k5⟩
    obtain ⟨g', c', rfl⟩ := hform
    exact h g' c' w' k1 ((Below.refl base w).grown k2 hbase (fun k e => (hown.lt k e).1))
section
variable {W : World} {F S : Nat → Prop} {p places : Nat} {gs : List SegW} {vs : Value}
/-- A segment more, with records whose bytes lie already. -/
theorem RefW.snocR (h : RefW W F S p places gs vs) (x : SegW) {W1 W9 : World} (hb : Below W.heap.size W W1) (hg : W1.grownBy W9 vs.ownBlock) {g cap : Nat} (hxr : W1.ownsRow W.heap.size 52 1 x.vr x.rs.length x.rs) (hxs : RecRows W S x.rs x.d.recs)
    (hown : W9.ownsRow 0 68 4 (.slice (some ⟨g, 0, none⟩) (gs.length + 1) cap) (gs.length + 1) (gs.flatMap SegW.cells ++ x.cells)) (hat : vs.ownBlock = some g ∨ g = W1.heap.size) :
    ∃ F', RefW (W9.setCell ⟨p, 1, none⟩ (.slice (some ⟨g, 0, none⟩) (gs.length + 1) cap)) F' S p places (gs ++ [x]) (.slice (some ⟨g, 0, none⟩) (gs.length + 1) cap) ∧ (∀ k, F' k → F k ∨ W.heap.size ≤ k) ∧ Kept F W (W9.setCell ⟨p, 1, none⟩ (.slice (some ⟨g, 0, none⟩) (gs.length + 1) cap)) := by
  have hg2 := (hown.lt g rfl).2
  have hpl := h.block.lt
  have hz1 := hb.size
  have hz9 := hg.size
  have hxl := fun k e => hxr.lt k e
  have hK1 : Kept (fun k => vs.ownBlock = some k) W1 W9 := (Kept.refl _ _).grown hg (fun k e => .inl e)
  have hK : Kept (fun k => vs.ownBlock = some k) W W9 := (Kept.of_below hb).trans hK1 (fun k e => .inl e)
  have hvl : ∀ k, vs.ownBlock = some k → k < W.heap.size := fun k e => h.lt k (.inl (h.fp.2 k e))
  have hpv : vs.ownBlock ≠ some p := two_ne h.block h.segs (by decide)
  have hKp : Kept (fun k => k = p) W9 (W9.setCell ⟨p, 1, none⟩ (.slice (some ⟨g, 0, none⟩) (gs.length + 1) cap)) := (Kept.refl (fun k => k = p) W9).setCell (p := ⟨p, 1, none⟩) (.inl rfl) _
  have hgp : g ≠ p := by
    rcases hat with e | e
    · intro e2; subst e2; exact hpv e
    · omega
  have hall : Kept (fun k => vs.ownBlock = some k ∨ k = p) W (W9.setCell ⟨p, 1, none⟩ (.slice (some ⟨g, 0, none⟩) (gs.length + 1) cap)) := (hK.mono (fun k _ e => .inl e)).setCell (.inl (.inr rfl)) _
  have hrow : ∀ {e : TypeId} {size n : Nat} {v : Value} {xs : List Value}, W.ownsRow 0 e size v n xs → 68 ≠ e → 62 ≠ e → (W9.setCell ⟨p, 1, none⟩ (.slice (some ⟨g, 0, none⟩) (gs.length + 1) cap)).ownsRow 0 e size v n xs := fun ho h1 h2 =>
    hall.own ho (fun k e hk => hk.elim (fun hk => own_ne h.segs ho h1 k hk e) (fun hk => by subst hk; exact two_ne h.block ho h2 e))
  refine ⟨fun k => F k ∨ (W.heap.size ≤ k ∧ k < W9.heap.size), { block := ?_, segs := ?_, rows := ?_, fp := ?_, lt := ?_, apart := ?_ }, ?_, ?_⟩
  · exact (h.block.kept hK hpv).setB _
  · rw [List.length_append, List.flatMap_append]
    exact hKp.own (by simpa using hown) (fun k e => by cases e; exact hgp)
  · intro y hy
    rcases List.mem_append.1 hy with hy | hy
    · obtain ⟨r1, r2, r3, r4⟩ := h.rows y hy
      exact ⟨hrow r1 (by decide) (by decide), fun k e => .inl (r2 k e), r3, fun i u b hu hb => ⟨hrow (r4 i u b hu hb).1 (by decide) (by decide), (r4 i u b hu hb).2⟩⟩
    · simp only [List.mem_singleton] at hy
      subst hy
      refine ⟨hKp.own (hK1.own (own_later hxr (Nat.zero_le _)) (fun k e hk => ?_)) (fun k e hk => ?_), fun k e => .inr ⟨(hxl k e).1, ?_⟩, hxs.1, fun i u b hu hb => ⟨hrow (hxs.2 i u b hu hb).1 (by decide) (by decide), (hxs.2 i u b hu hb).2⟩⟩
      · have := (hxl k e).1; have := hvl k hk; omega
      · have := (hxl k e).1; omega
      · have := (hxl k e).2; omega
  · refine ⟨.inl h.fp.1, fun k e => ?_⟩
    have e : g = k := by simpa [Value.ownBlock] using e
    subst e
    rcases hat with e | e
    · exact .inl (h.fp.2 _ e)
    · exact .inr ⟨by omega, hg2⟩
  · intro k hk
    have hz : (W9.setCell ⟨p, 1, none⟩ (.slice (some ⟨g, 0, none⟩) (gs.length + 1) cap)).heap.size = W9.heap.size := by simp [World.setCell]
    rw [hz]
    rcases hk with (hk | hk) | hk
    · have := h.lt k (.inl hk); omega
    · exact hk.2
    · have := h.lt k (.inr hk); omega
  · refine List.pairwise_append.2 ⟨h.apart, by simp, fun a ha b hb k e e2 => ?_⟩
    simp only [List.mem_singleton] at hb
    subst hb
    have := (hxl k e2).1
    have := h.lt k (.inl ((h.rows a ha).2.1 k e))
    omega
  · rintro k (hk | hk)
    · exact .inl hk
    · exact .inr hk.1
  · exact (hK.mono (fun k _ e => h.fp.2 k e)).setCell (.inl h.fp.1) _
end
theorem row_set8 {W : World} {p i : Nat} {cs : Array Value} {t : TypeId} {fr : Nat × Nat} (h : W.heap[p]? = some (.cells cs t fr)) (v : Value) : (W.setCell ⟨p, i, none⟩ v).heap[p]? = some (.cells (cs.setIfInBounds i v) t fr) := by
  obtain ⟨hlt, hk⟩ := Array.getElem?_eq_some_iff.1 h
  show (W.heap.modify p _)[p]? = _
  rw [Array.getElem?_eq_getElem (by rw [Array.size_modify]; exact hlt), Array.getElem_modify_self, hk]
  simp
theorem own_recs {W : World} {S : Nat → Prop} {rs : List Value} {bs : List (List UInt8)} (h : RecRows W S rs bs) : ∀ u ∈ rs, u.oneCell' = true := fun u hu => by
  obtain ⟨i, hi, rfl⟩ := List.getElem_of_mem hu
  have ho := (h.2 i rs[i] (bs[i]'(by rw [← h.1]; exact hi)) (List.getElem?_eq_getElem hi) (List.getElem?_eq_getElem _)).1
  rcases ho.2 with ⟨e, _⟩ | ⟨_, _, _, e, _⟩
  · rw [e]; rfl
  · rw [e]; rfl
set_option maxRecDepth 100000 in
set_option maxHeartbeats 4000000 in
theorem copy_any {W : World} {F S : Nat → Prop} {p : Nat} {s : StoD} (h0 : RefI2 W F S p s) (hmax : s.segs.length ≤ 1000) (hrm : ∀ g ∈ s.segs, g.recs.length ≤ 1000) :
    Calls Tryd.prog 34 #[.pointer (some ⟨p, 0, none⟩)] W fun e w' => ∃ q F', e = .returned (.pointer (some ⟨q, 0, none⟩)) ∧ RefI2 w' F' S q s ∧ (∀ k, F' k → W.heap.size ≤ k) ∧ Below W.heap.size W w' := by
  obtain ⟨gs, vs, hgs, h⟩ := h0
  have hgl : gs.length ≤ 1000 := by rw [hgs, List.length_map] at hmax; exact hmax
  have hgr : ∀ g ∈ gs, g.rs.length ≤ 1000 := fun g hg => by
    rw [(h.rows g hg).2.2.1]
    exact hrm g.d (by rw [hgs]; exact List.mem_map.2 ⟨g, hg, rfl⟩)
  obtain ⟨hpl, c0, c1, _⟩ := h.block.facts
  obtain ⟨A, c, rfl, _, _⟩ := h.vform
  obtain ⟨P, hP⟩ : ∃ P, s.places = P := ⟨_, rfl⟩
  rw [hP] at h c0
  have H := Lib.hid h
  have HG := Lib.hid hgs
  have HP := Lib.hid hP
  have HM := Lib.hid hgl
  have HRm := Lib.hid hgr
  obtain ⟨i0, hinf, hz0, hz1, hz2⟩ := info_parts infoG
  have HIn := Lib.hid hinf
  obtain ⟨i1, hinf1, hy0, hy1, hy2⟩ := info_parts infoL
  have HIn1 := Lib.hid hinf1
  obtain ⟨L, hL⟩ : ∃ L, gs.length = L := ⟨_, rfl⟩
  have HL := Lib.hid hL
  rw [hL] at c1
  clear hgs hP hgl hgr hmax hrm h hinf hinf1 hL
  have hst : RefW (W.alloc (.cells #[.int .i64 (P : Int), .slice none 0 0] 62)) (fun b => b = W.heap.size) S W.heap.size P [] (.slice none 0 0) := by
    refine { block := Two.new W _ _ _, segs := ⟨rfl, .inl ⟨rfl, rfl⟩⟩, rows := (fun g hg => by cases hg), fp := ⟨rfl, (fun k e => by cases e)⟩, lt := fun k hk => ?_, apart := List.Pairwise.nil }
    rw [World.size_alloc]
    rcases hk with hk | hk
    · omega
    · have := H.out.lt k (.inr hk); omega
  have HSt := Lib.hid hst
  have HB0 := Lib.hid ((Below.refl W.heap.size W).alloc (Nat.le_refl _) (.cells #[.int .i64 (P : Int), .slice none 0 0] 62))
  have c1' := (HB0.out.cell (p := ⟨p, 1, none⟩) hpl).trans c1
  clear hst
  go_enter Tryd.func34, Tryd.ntmps34
  go_wp2_with fail
  go_loopw [17] (fun i wr => ∃ j : Nat, i = .int .i64 j ∧ j ≤ L ∧ Hid (Below W.heap.size W wr) ∧ Hid (∃ Fo gso vso, RefW wr Fo S W.heap.size P gso vso ∧ gso.map SegW.d = (gs.take j).map SegW.d ∧ (∀ k, Fo k → W.heap.size ≤ k))) (fun i _ => L - (intOf i).toNat)
  case atStart => exact ⟨0, rfl, Nat.zero_le _, HB0, Lib.hid ⟨_, _, _, HSt.out, rfl, fun k hk => by omega⟩⟩
  case round =>
    obtain ⟨j, rfl, hj, hb, ho⟩ := hrel
    by_cases hlj : j < L
    · obtain ⟨Fo, gso, vso, hR, hmap, hFo⟩ := ho.out
      have hjg : j < gs.length := by rw [HL.out]; exact hlj
      obtain ⟨bs, cc, hv, hbb, d0, d1, d2, d3⟩ := (H.out.below hb.out).cells j hjg
      injection hv with e1 _ e3
      subst e1 e3
      have hrow := (H.out.below hb.out).rows _ (List.getElem_mem hjg)
      have hrl := HRm.out _ (List.getElem_mem hjg)
      obtain ⟨Av, cv, hvr, hvc, _⟩ := H.out.vr_form (List.getElem_mem hjg)
      rw [hvr] at d3 hrow
      obtain ⟨x, hx⟩ : ∃ x : SegW, x = gs[j] := ⟨_, rfl⟩
      have HX := Lib.hid hx
      rw [← hx] at d0 d1 d2 d3 hrow hrl hvc
      obtain ⟨Ao, co, rfl, hoc, _⟩ := hR.vform
      have hgol : gso.length = j := by
        have := congrArg List.length hmap
        rw [List.length_map, List.length_map, List.length_take] at this
        omega
      rw [hgol] at hR hoc
      obtain ⟨hql, _, o1, hof⟩ := hR.block.facts
      have c1r := (hb.out.cell (p := ⟨p, 1, none⟩) hpl).trans c1
      have hpr := Nat.lt_of_lt_of_le hpl hb.out.size
      have HRo := Lib.hid hR
      have HMap := Lib.hid hmap
      have HFo := Lib.hid hFo
      have HGol := Lib.hid hgol
      obtain ⟨pl, hpl'⟩ : ∃ n, x.d.place = n := ⟨_, rfl⟩
      obtain ⟨no, hno⟩ : ∃ n, x.d.number = n := ⟨_, rfl⟩
      obtain ⟨sc, hsc⟩ : ∃ n, x.d.sectors = n := ⟨_, rfl⟩
      obtain ⟨rl, hrll⟩ : ∃ n, x.rs.length = n := ⟨_, rfl⟩
      rw [hpl'] at d0
      rw [hno] at d1
      rw [hsc] at d2
      rw [hrll] at d3 hrow hrl hvc
      have HXd := Lib.hid (And.intro hpl' (And.intro hno (And.intro hsc hrll)))
      have HRow := Lib.hid hrow
      have HRl := Lib.hid hrl
      have HLm := Lib.hid (show j + 1 ≤ 1000 by have := HM.out; omega)
      obtain ⟨W7, hW7⟩ : ∃ W7, wr.alloc (.cells #[.int .i64 (pl : Int), .int .i64 (no : Int), .int .i64 (sc : Int), .slice Av rl cv] 68) = W7 := ⟨_, rfl⟩
      have HB7 := Lib.hid (show Below wr.heap.size wr W7 by rw [← hW7]; exact (Below.refl _ _).alloc (Nat.le_refl _) _)
      have hbox : W7.heap[wr.heap.size]? = some (.cells #[.int .i64 (pl : Int), .int .i64 (no : Int), .int .i64 (sc : Int), .slice Av rl cv] 68) := by rw [← hW7]; exact heap_alloc_new _ _
      have HBox := Lib.hid hbox
      have hs7 : wr.heap.size < W7.heap.size := by rw [← hW7, World.size_alloc]; omega
      have e3 : W7.cell? ⟨wr.heap.size, 3, none⟩ = some (.slice Av rl cv) := by rw [cell_of_row _ _ 3 _ _ _ hbox]; rfl
      clear hR hmap hFo hgol hpl' hno hsc hrll hrow hrl hvc hoc hx hbox hvr ho
      go_wp2_with (at_builtin; refine wpList_append_row _ rfl (.tmp 21) (.tmp 23) _ rfl W7.heap.size 52 i1 (.slice none 0 0) 24 Tryd.underlying58 HIn1.out hy0 hy1 hy2 rfl _ 0 _ [] rfl ?d0 _ 0 rl x.rs rfl ?d1 ?d2 ?d3 ?d4 ?d5 ?_)
      case d0 => exact own_none (Nat.le_refl _) (heap_alloc_new W7 _)
      case d1 => exact own_below (own_below HRow.out.1 HB7.out) ((Below.refl _ _).alloc (Nat.le_refl _) _)
      case d2 => exact fun u hu => own_recs HRow.out.2.2 u hu
      case d3 => have := HRl.out; unfold maxLen; omega
      case d4 => have := HRl.out; omega
      intro g2 c2 w9 k1 k2
      replace k2 := ((Below.refl W7.heap.size W7).alloc (Nat.le_refl _) (.cells #[] 52)).trans k2
      have hs9 := k2.size
      have HK1 := Lib.hid k1
      have hbox9 := (k2.block _ hs7).trans HBox.out
      have HBox9 := Lib.hid hbox9
      have HB9 := Lib.hid (HB7.out.trans (k2.mono (Nat.le_of_lt hs7)))
      have b0 : w9.cell? ⟨wr.heap.size, 0, none⟩ = some (.int .i64 (pl : Int)) := by rw [cell_of_row _ _ 0 _ _ _ hbox9]; rfl
      have b1 : w9.cell? ⟨wr.heap.size, 1, none⟩ = some (.int .i64 (no : Int)) := by rw [cell_of_row _ _ 1 _ _ _ hbox9]; rfl
      have b2 : w9.cell? ⟨wr.heap.size, 2, none⟩ = some (.int .i64 (sc : Int)) := by rw [cell_of_row _ _ 2 _ _ _ hbox9]; rfl
      have b3 : w9.cell? ⟨wr.heap.size, 3, none⟩ = some (.slice Av rl cv) := by rw [cell_of_row _ _ 3 _ _ _ hbox9]; rfl
      have o9 := (HB9.out.cell (p := ⟨W.heap.size, 1, none⟩) hql).trans o1
      have hq9 := Nat.lt_of_lt_of_le hql HB9.out.size
      have hx9 : wr.heap.size < w9.heap.size := Nat.lt_of_lt_of_le hs7 hs9
      have fz9 : w9.frozen? ⟨wr.heap.size, 3, none⟩ = false := by
        unfold World.frozen?
        rw [show w9.heap[(⟨wr.heap.size, 3, none⟩ : Addr).block]? = _ from hbox9]
        simp
      have H7 := Lib.hid hs7
      clear k1 k2 hbox9 hs9 e3 hs7
      go_wp2_with fail
      clear fz9
      generalize hW10 : w9.setCell ⟨wr.heap.size, 3, none⟩ (.slice (some ⟨g2, 0, none⟩) rl c2) = W10
      have HB10 := Lib.hid (show Below wr.heap.size wr W10 by rw [← hW10]; exact HB9.out.setCell (p := ⟨wr.heap.size, 3, none⟩) (Nat.le_refl _) _)
      have hbox10 : W10.heap[wr.heap.size]? = some (.cells #[.int .i64 (pl : Int), .int .i64 (no : Int), .int .i64 (sc : Int), .slice (some ⟨g2, 0, none⟩) rl c2] 68) := by
        rw [← hW10]
        exact row_set8 HBox9.out _
      have HK10 := Lib.hid (show W10.ownsRow W7.heap.size 52 1 (.slice (some ⟨g2, 0, none⟩) rl c2) rl x.rs by
        rw [← hW10]
        exact ((Kept.refl (fun k => k = wr.heap.size) w9).setCell (p := ⟨wr.heap.size, 3, none⟩) (.inl rfl) _).own HK1.out (fun k e hk => by have := (HK1.out.lt k e).1; have := H7.out; omega))
      have t0 : W10.cell? ⟨wr.heap.size, 0, none⟩ = some (.int .i64 (pl : Int)) := by rw [cell_of_row _ _ 0 _ _ _ hbox10]; rfl
      have t1 : W10.cell? ⟨wr.heap.size, 1, none⟩ = some (.int .i64 (no : Int)) := by rw [cell_of_row _ _ 1 _ _ _ hbox10]; rfl
      have t2 : W10.cell? ⟨wr.heap.size, 2, none⟩ = some (.int .i64 (sc : Int)) := by rw [cell_of_row _ _ 2 _ _ _ hbox10]; rfl
      have t3 : W10.cell? ⟨wr.heap.size, 3, none⟩ = some (.slice (some ⟨g2, 0, none⟩) rl c2) := by rw [cell_of_row _ _ 3 _ _ _ hbox10]; rfl
      have o10 := (HB10.out.cell (p := ⟨W.heap.size, 1, none⟩) hql).trans o1
      have hq10 := Nat.lt_of_lt_of_le hql HB10.out.size
      have hx10 : wr.heap.size < W10.heap.size := by have := H7.out; have := HK10.out.lt g2 rfl; omega
      clear hW10 hbox10 b0 b1 b2 b3 o9 hq9 hx9
      go_region_law (first
        | (refine step_append_lies _ rfl (.tmp 30) (.tmp 32) _ rfl 0 68 i0 _ 4 48 Tryd.underlying60 HIn.out hz0 hz1 hz2 rfl (by omega) _ j (gso.flatMap SegW.cells) rfl ?_ _ 1 _ [.int .i64 (pl : Int), .int .i64 (no : Int), .int .i64 (sc : Int), .slice (some ⟨g2, 0, none⟩) rl c2] rfl rfl ?_ ?_ (by omega) ?_ ?_ ?_ _ rfl ?_; (have hsg := HRo.out.segs; rw [HGol.out] at hsg; exact own_below (own_below hsg HB10.out) ((Below.refl _ _).alloc (Nat.le_refl _) _).drew); (exact fun j u hu => World.news_of_block (heap_alloc_new W10 _) j u (by simpa using hu)); (intro u hu; simp only [List.mem_cons, List.not_mem_nil, or_false] at hu; rcases hu with rfl | rfl | rfl | rfl <;> rfl); (have := HLm.out; unfold maxLen; omega); (have := HLm.out; omega); (exact Nat.zero_le _); intro g cap w11 h1 h2 h3 h4; have hb11 := (HB10.out.alloc HB10.out.size (.cells #[.int .i64 (pl : Int), .int .i64 (no : Int), .int .i64 (sc : Int), .slice (some ⟨g2, 0, none⟩) rl c2] 68)).drew; obtain ⟨G1, G2, G4⟩ := (HRo.out.below hb11).grown h2; have HX11 := Lib.hid (And.intro hb11 (And.intro h1 (And.intro h2 h3))); clear h1 h2 h3 h4 hb11))
      all_goals
        obtain ⟨hb11, h1, h2, h3⟩ := HX11.out
        obtain ⟨x0, x1, x2, x3⟩ := HXd.out
        have hsn := HRo.out.snocR (g := g) (cap := cap) ⟨x.d, .slice (some ⟨g2, 0, none⟩) rl c2, x.rs⟩ hb11 h2 (by
          show World.ownsRow _ _ _ _ _ x.rs.length x.rs
          rw [x3]
          exact own_below (own_later HK10.out HB7.out.size) ((Below.refl _ _).alloc (Nat.le_refl _) _).drew) HRow.out.2.2 (by
          rw [HGol.out]
          unfold SegW.cells
          rw [x0, x1, x2]
          exact h1) h3
        rw [HGol.out] at hsn
        have HSn := Lib.hid hsn
        have hsz11 := hb11.size
        have HB12 := Lib.hid (hb.out.trans (show Below W.heap.size wr (w11.setCell ⟨W.heap.size, 1, none⟩ (.slice (some ⟨g, 0, none⟩) (j + 1) cap)) from by
          obtain ⟨_, _, _, hk⟩ := hsn
          exact hk.below hb.out.size HFo.out))
        have HMap2 := Lib.hid (show (gso ++ [(⟨x.d, .slice (some ⟨g2, 0, none⟩) rl c2, x.rs⟩ : SegW)]).map SegW.d = (gs.take (j + 1)).map SegW.d from by
          rw [List.map_append, HMap.out, List.take_succ_eq_append_getElem hjg, List.map_append]
          simp [HX.out])
        generalize w11.setCell ⟨W.heap.size, 1, none⟩ (.slice (some ⟨g, 0, none⟩) (j + 1) cap) = W12 at *
        clear hsn hb11 h1 h2 h3 x0 x1 x2 x3 hsz11 G1 G2 G4 HX11
        go_wp2_with fail
        go_roundw
        case rel =>
          obtain ⟨F', s1, s2, s3⟩ := HSn.out
          exact ⟨j + 1, by go_num, by omega, HB12, Lib.hid ⟨F', _, _, s1, HMap2.out, fun k hk => (s2 k hk).elim (HFo.out k) (fun h => Nat.le_trans hb.out.size h)⟩⟩
        case measure => simp [intOf]; omega
    · have hje : j = L := by omega
      subst hje
      go_wp2_with fail
      go_ret
      obtain ⟨Fo, gso, vso, hR, hmap, hFo⟩ := ho.out
      refine ⟨_, Fo, rfl, ⟨gso, vso, ?_, by rw [HP.out]; exact hR⟩, hFo, hb.out⟩
      rw [hmap, HG.out, ← HL.out, List.take_length]
end Go.Proofs.YtidbmagpnaingaaDoor
