/- A segment's records. -/
import Derived.Test.YtiafamacjpgjoaaGreatDoorGSsF
import Derived.Test.YtiafamacjpgjoaaGreatDoorGSsR
import Derived.Test.YtiafamacjpgjoaaGreatDoorGSeqX
import Derived.Test.YtiafamacjpgjoaaGreatDoorGSgA
import Derived.Deep.RegionHeld3
namespace Go.Proofs.YtiafamacjpgjoaaGreatDoor
open Go.RowKit Go.Shelf Tide
attribute [local go_sem] Oper.semAt_some

theorem infoR : (Tryz.prog.info? 47).map (fun i => (i.zero, i.size, i.bytes)) = some (some (.slice none 0 0), 1, 24) := by kernel_rfl
def recsU (im : List UInt8) (us : List SegU) (n : Int) : List (List UInt8) := match (backL us).find? fun x => (x.2.no : Int) == n with
  | none => []
  | some x => (headsS im x.2.first).map fun y => bodyD im (y.1 + 1) y.2
theorem backL_mem {us : List SegU} {x : Nat × SegU} (h : x ∈ backL us) : ∃ h : x.1 < us.length, us[x.1] = x.2 := by
  unfold backL at h
  rw [List.mem_reverse] at h
  obtain ⟨i, hi, rfl⟩ := List.mem_mapIdx.1 h
  exact ⟨hi, rfl⟩
theorem recs_fin {A0 w6 w9 : World} {b n5 z : Nat} {v u v9 : Value} {rs : List Value} {L : List (List UInt8)} {l : List UInt8} {o : Obj} (hv1 : Boxed A0 b 117 v) (hv2 : A0.ownsRow n5 47 1 v rs.length rs) (hv3 : RecRows A0 (fun k => n5 ≤ k) rs L) (hn : n5 ≤ A0.heap.size)
    (ho6 : w6.ownsRow A0.heap.size 5 1 u z (u8s l)) (hl : l.length = z) (hb6 : Below A0.heap.size A0 w6) (h1 : w9.ownsRow n5 47 1 v9 (rs.length + 1) (rs ++ [u])) (h2 : (w6.alloc o).grownBy w9 v.ownBlock) :
    (w9.cell? ⟨b, 0, none⟩ = some v ∧ w9.frozen? ⟨b, 0, none⟩ = false) ∧ KeepsFrom n5 A0 (w9.setCell ⟨b, 0, none⟩ v9) ∧ Kept (fun k => k = b ∨ n5 ≤ k) A0 (w9.setCell ⟨b, 0, none⟩ v9) ∧ Boxed (w9.setCell ⟨b, 0, none⟩ v9) b 117 v9 ∧ (w9.setCell ⟨b, 0, none⟩ v9).ownsRow n5 47 1 v9 (rs ++ [u]).length (rs ++ [u]) ∧ RecRows (w9.setCell ⟨b, 0, none⟩ v9) (fun k => n5 ≤ k) (rs ++ [u]) (L ++ [l]) := by
  have hb7 : Below A0.heap.size A0 (w6.alloc o) := hb6.alloc hb6.size _
  have hv17 : Boxed (w6.alloc o) b 117 v := (hb7.block _ hv1.lt).trans hv1
  have hv27 := own_below hv2 hb7
  have hv19 : Boxed w9 b 117 v := hv17.kept h2 (hv17.not_row (by decide) hv27)
  have hK9 : Kept (fun k => v.ownBlock = some k) A0 w9 := (Kept.of_below hb7).trans ((Kept.refl _ _).grown h2 (fun k e => .inl e)) (fun k e => .inl e)
  have hset : Kept (fun k => k = b) w9 (w9.setCell ⟨b, 0, none⟩ v9) := (Kept.refl (fun k => k = b) w9).setCell (p := ⟨b, 0, none⟩) (.inl rfl) _
  have hall : Kept (fun k => v.ownBlock = some k ∨ k = b) A0 (w9.setCell ⟨b, 0, none⟩ v9) := (hK9.mono (fun k _ e => .inl e)).setCell (p := ⟨b, 0, none⟩) (.inl (.inr rfl)) _
  have hrow : ∀ {u' : Value} {m : Nat} {xs : List Value}, A0.ownsRow 0 5 1 u' m xs → (w9.setCell ⟨b, 0, none⟩ v9).ownsRow 0 5 1 u' m xs := fun hr => hall.own hr (fun k e hk => by
    rcases hk with hk | rfl
    · exact own_ne hv2 hr (by decide) k hk e
    · exact hv1.not_row (by decide) hr e.symm)
  refine ⟨⟨hv19.cell, hv19.frozen⟩, ?_, ?_, hv19.set _, ?_, ?_, ?_⟩
  · refine ((keeps_below hb7).trans ?_).trans ((KeepsOthers.setCell _ _ _).from _)
    refine (KeepsOthers.of_grownBy h2 fun j o' e hj => ?_).from _
    obtain ⟨c, hc⟩ := own_obj hv27 e
    rw [hj] at hc
    injection hc with hc
    rw [hc]
    rfl
  · refine hall.mono fun k _ hk => ?_
    rcases hk with hk | hk
    · exact .inr (hv2.lt k hk).1
    · exact .inl hk
  · rw [List.length_append]
    exact h1.kept (grownBy_setCell' w9 b v9) (.inr (hv19.not_row (by decide) h1).symm)
  · rw [List.length_append, List.length_append, hv3.1]; rfl
  · intro i u' b' hu hb'
    by_cases hi : i < rs.length
    · rw [List.getElem?_append_left hi] at hu
      rw [List.getElem?_append_left (by rw [← hv3.1]; exact hi)] at hb'
      obtain ⟨r1, r2⟩ := hv3.2 i u' b' hu hb'
      exact ⟨hrow r1, r2⟩
    · rw [List.getElem?_append_right (by omega)] at hu
      rw [List.getElem?_append_right (by rw [← hv3.1]; omega), ← hv3.1] at hb'
      have h0 : i - rs.length = 0 := by
        have := (List.getElem?_eq_some_iff.1 hu).1
        simp at this
        omega
      rw [h0] at hu hb'
      simp at hu hb'
      subst hu hb'
      have hlt := ho6.lt
      refine ⟨?_, fun k e => Nat.le_trans hn (hlt k e).1⟩
      have r1 : (w6.alloc o).ownsRow 0 5 1 u l.length (u8s l) := own_below (by rw [hl]; exact own_later ho6 (Nat.zero_le _)) ((Below.refl _ _).alloc (Nat.le_refl _) _)
      have r2 : w9.ownsRow 0 5 1 u l.length (u8s l) := r1.kept h2 (by
        rcases r1.2 with ⟨h0, _⟩ | ⟨g, cap, cur, h0, _⟩
        · exact .inl (by rw [h0]; rfl)
        · refine .inr fun e => ?_
          have hg0 : u.ownBlock = some g := by rw [h0]; rfl
          first
            | exact own_ne r1 hv27 (by decide) g hg0 (e ▸ hg0)
            | exact own_ne r1 hv27 (by decide) g hg0 (e.symm ▸ hg0))
      exact r2.kept (grownBy_setCell' w9 b v9) (.inr (hv19.not_row (by decide) r2).symm)
theorem headsD_len (im : List UInt8) (lim : Nat) : ∀ k i, (headsD im lim k i).length ≤ k
  | 0, _ => Nat.le_refl _
  | k + 1, i => by
    unfold headsD
    split
    · have := headsD_len im lim k (behindN i (sizeD im i))
      simp only [List.length_cons]; omega
    · simp
theorem headsS_len (im : List UInt8) (first : Nat) : (headsS im first).length ≤ 64 := headsD_len _ _ _ _
theorem below_undrew {A w : World} (h : Below A.drew.heap.size A.drew w) : Below A.heap.size A w := ⟨h.os, h.tape, h.output, h.size, h.block⟩
theorem noDefer {ops : Array Oper} (h : ops.all (fun o => match o.op with | .defer _ => false | _ => true) = true) : ∀ (i : Nat) (o : Oper), ops[i]? = some o → ∀ c, o.op ≠ .defer c := fun i o ho c hc => by
  have h1 := Array.all_eq_true.1 h i (Array.getElem?_eq_some_iff.1 ho).1
  rw [(Array.getElem?_eq_some_iff.1 ho).2, hc] at h1
  cases h1
section
variable {W : World} {D : DvP} {x : Nat → Addr} {Fd Fs : Nat → Prop} {p dev : Nat} {us : List SegU} {vs : Value} {d : Dv}
set_option maxRecDepth 100000 in
set_option maxHeartbeats 4000000 in
theorem records_any (hD : DvSpec x D) (hd : D W Fd dev d) (h : StW W Fs p dev us vs) (hmax : us.length ≤ 1000) (hf : ∀ u ∈ us, u.first + 64 ≤ d.img.length / 64) (n : Int) : Calls Tryz.prog 79 #[.pointer (some ⟨p, 0, none⟩), .int .i64 n] W fun e w' => ∃ v, e = .returned v ∧ Parts w' w'.heap.size v (recsU (flushD d.img d.pend) us n) ∧ Below W.heap.size W w' := by
  have ba := (Below.refl W.heap.size W).alloc (Nat.le_refl _) (.cells #[.pointer (some ⟨p, 0, none⟩)] 109)
  have hbs := Boxed.new W 109 (.pointer (some ⟨p, 0, none⟩))
  generalize hWa : W.alloc (.cells #[.pointer (some ⟨p, 0, none⟩)] 109) = Wa at *
  have CF := Lib.hid (find_any (h.below ba) hmax n)
  have HWz := Lib.hid (show Wa.heap.size = W.heap.size + 1 by rw [← hWa, World.size_alloc])
  have HBa := Lib.hid ba
  have HXs := Lib.hid hbs
  have HS := Lib.hid (h.below ba)
  have HDv := Lib.hid (hD.keep _ _ _ (fun _ => False) _ _ hd (Kept.of_below ba) (fun _ _ h => h))
  have HSl := Lib.hid h.lt
  have HDl := Lib.hid (hD.lt _ _ _ _ hd)
  have HFi := Lib.hid hf
  have HLn := Lib.hid (hD.right _ _ _ _ hd)
  obtain ⟨im, him⟩ : ∃ im, flushD d.img d.pend = im := ⟨_, rfl⟩
  have HIm := Lib.hid him
  rw [him]
  have cb := hbs.cell
  have CH := Lib.hid (fun f w => heads_any p f w)
  clear ba hbs h hd hf him
  refine (callsIn_wide (n := 7)).1 ?_
  refine callsIn_of_wp_marks Tryz.func79 rfl trivial ?_ rfl
  simp only [Tryz.ntmps79, List.size_toArray, List.length_cons, List.length_nil, Nat.reduceAdd, Nat.reduceSub, Array.replicate_succ, Array.replicate_zero, List.push_toArray, List.append_toArray, List.nil_append, List.cons_append]
  gi_wp2_with fail
  refine ⟨trivial, (callsIn_wide.2 CF.out).mono ?_⟩
  rintro e w1 ⟨rfl, hb1⟩
  have HB1 := Lib.hid hb1
  have cb1 := (hb1.cell (p := ⟨W.heap.size, 0, none⟩) HXs.out.lt).trans cb
  have H1 := Lib.hid (HS.out.below hb1)
  clear hb1 CF cb
  cases hfd : (backL us).find? (fun x => (x.2.no : Int) == n) with
  | none =>
    have HR := Lib.hid (show recsU im us n = [] by unfold recsU; rw [hfd])
    rw [show findU us n = -1 by unfold findU; rw [hfd]]
    clear hfd
    gi_wp2_with fail
    refine ⟨_, results_tmp rfl _ _ _, _, rfl, ?_, HBa.out.trans (HB1.out.mono (by have := HWz.out; omega))⟩
    rw [HR.out]
    exact ⟨[], ⟨by simp, none, 0, rfl, by simp, by simp, fun h => absurd rfl h⟩, rfl, fun i u p hu _ => by cases hu⟩
  | some y =>
    obtain ⟨hyl, hyu⟩ := backL_mem (List.mem_of_find?_eq_some hfd)
    have HR := Lib.hid (show recsU im us n = (headsS im y.2.first).map fun z => bodyD im (z.1 + 1) z.2 by unfold recsU; rw [hfd])
    rw [show findU us n = (y.1 : Int) by unfold findU; rw [hfd]]
    obtain ⟨k, u⟩ := y
    dsimp only at hyl hyu HR ⊢
    obtain ⟨gb, cc, rfl, _, hgb, _, d0, d1, d2, _⟩ := H1.out.cells k hyl
    rw [hyu] at d1
    obtain ⟨_, _, c1, _⟩ := H1.out.block.facts
    have HFi2 := Lib.hid (HFi.out u (by rw [← hyu]; exact List.getElem_mem hyl))
    have hkl : (k : Int) < (us.length : Int) := by omega
    have hk0 : decide ((k : Int) < 0) = false := decide_eq_false (by omega)
    generalize u.first = fi at *
    have hl1 : W.heap.size < w1.heap.size := World.block_lt_of_cell? _ _ cb1
    have hl2 : p < w1.heap.size := World.block_lt_of_cell? _ _ c1
    clear hfd hyu d0 d2 hmax
    gi_wp2_with fail
    obtain ⟨W2, hW2⟩ : ∃ W2, w1.alloc (.cells #[.slice none 0 0] 117) = W2 := ⟨_, rfl⟩
    have hb2 : Below w1.heap.size w1 W2 := by rw [← hW2]; exact (Below.refl _ w1).alloc (Nat.le_refl _) _
    have hx2 : Boxed W2 w1.heap.size 117 (.slice none 0 0) := by rw [← hW2]; exact Boxed.new _ _ _
    have hz2 : W2.heap.size = w1.heap.size + 1 := by rw [← hW2, World.size_alloc]
    rw [hW2]
    have HB2 := Lib.hid hb2
    have HX2 := Lib.hid hx2
    have HZ2 := Lib.hid hz2
    have cb2 := (hb2.cell (p := ⟨W.heap.size, 0, none⟩) hl1).trans cb1
    have c12 := (hb2.cell (p := ⟨p, 1, none⟩) hl2).trans c1
    have d12 := (hb2.cell (p := ⟨gb, k * 3 + 1, none⟩) hgb).trans d1
    have HS0 := Lib.hid (And.intro cb2 (And.intro c12 d12))
    have CH2 := Lib.hid (show Calls Tryz.prog 118 #[.pointer (some ⟨p, 0, none⟩), .int .i64 (fi : Nat)] W2.drew (fun e w' => e = .returned (.func (.func 145) #[] #[.pointer (some ⟨W2.heap.size + 1, 0, none⟩), .pointer (some ⟨W2.heap.size, 0, none⟩)]) ∧ Hid (Below W2.heap.size W2 w') ∧ Hid (w'.heap.size = W2.heap.size + 2) ∧ Hid (Boxed w' W2.heap.size 109 (.pointer (some ⟨p, 0, none⟩))) ∧ Hid (Boxed w' (W2.heap.size + 1) 3 (.int .i64 (fi : Nat)))) from (CH.out fi W2.drew).mono (by
      rintro e w' ⟨rfl, rfl⟩
      refine ⟨rfl, Lib.hid ((Below.refl _ _).drew.trans ?_), Lib.hid (by simp), Lib.hid ((Boxed.new W2.drew _ _).alloc _), Lib.hid ?_⟩
      · exact ((Below.refl W2.heap.size W2.drew).alloc (Nat.le_refl _) _).alloc (by simp) _
      · have := Boxed.new (W2.drew.alloc (.cells #[.pointer (some ⟨p, 0, none⟩)] 109)) 3 (.int .i64 (fi : Nat))
        rwa [World.size_alloc] at this))
    clear hb2 hx2 hz2 hW2 cb1 c1 d1 CH cb2 c12 d12
    refine wpIn_wide.2 ?_
    go_region_held3 (fun w' => w'.cell? ⟨W.heap.size, 0, none⟩ = some (.pointer (some ⟨p, 0, none⟩)) ∧ w'.cell? ⟨p, 1, none⟩ = some (.slice (some ⟨gb, 0, none⟩) us.length cc) ∧ w'.cell? ⟨gb, k * 3 + 1, none⟩ = some (.int .i64 (fi : Nat)))
      (first | assumption | exact HS0.out | exact HS5.out)
      (first
        | (go_at_call 118; (with_reducible refine (CH2.out).mono ?_); rintro en w5 ⟨rfl, hb5, hz5, hx5, hy5⟩; have HS5 := Lib.hid (And.intro ((hb5.out.cell (p := ⟨W.heap.size, 0, none⟩) (World.block_lt_of_cell? _ _ HS0.out.1)).trans HS0.out.1) (And.intro ((hb5.out.cell (p := ⟨p, 1, none⟩) (World.block_lt_of_cell? _ _ HS0.out.2.1)).trans HS0.out.2.1) ((hb5.out.cell (p := ⟨gb, k * 3 + 1, none⟩) (World.block_lt_of_cell? _ _ HS0.out.2.2)).trans HS0.out.2.2)))))
    have HX5 := Lib.hid (show Boxed w5 w1.heap.size 117 (.slice none 0 0) from (hb5.out.block _ HX2.out.lt).trans HX2.out)
    have HBW := Lib.hid (show Below W.heap.size W w5 from (HBa.out.trans (HB1.out.mono (by have := HWz.out; omega))).trans ((HB2.out.trans (hb5.out.mono (by have := HZ2.out; omega))).mono (Nat.le_of_lt hl1)))
    have hb15 : Below w1.heap.size w1 w5 := HB2.out.trans (hb5.out.mono (by have := HZ2.out; omega))
    have HW1 := Lib.hid (show W.heap.size + 1 ≤ w1.heap.size from hl1)
    have HSt := Lib.hid (H1.out.below hb15)
    have hdW : D w5 Fd dev d := hD.keep _ _ _ (fun _ => False) _ _ HDv.out (Kept.of_below (HB1.out.trans (hb15.mono (by have := HWz.out; omega)))) (fun _ _ h => h)
    have HDw := Lib.hid hdW
    have HFb := Lib.hid HFi2.out
    have HXS := Lib.hid (show Boxed w5 W.heap.size 109 (.pointer (some ⟨p, 0, none⟩)) from (hb15.block _ hl1).trans ((HB1.out.block _ HXs.out.lt).trans HXs.out))
    have HZ5 := Lib.hid (show w5.heap.size = w1.heap.size + 3 by rw [hz5.out, HZ2.out])
    rename_i hHd
    clear hHd CH2 HS0 HS5 hb15 hdW H1 HS HDv HX2 HB2 HB1 HXs HBa
    gi_wp2_with fail
    refine range_x rfl (by omega) (gf := 145) rfl trivial (enters_of Tryz.func145 (by kernel_rfl) rfl) (encs := encH)
      (fun _ => rfl) (heads_x _ (by omega) W2.heap.size (W2.heap.size + 1) w5 hD HDw.out HSt.out fi HFb.out hx5.out hy5.out (G := fun k => k = w1.heap.size ∨ w5.heap.size ≤ k) ⟨fun k hk hg => by
        have hz := HZ5.out
        have hz2 := HZ2.out
        have hw1 := HW1.out
        rcases hk with hk | hk | hk | hk
        · have := HDl.out _ hk; omega
        · have := HSl.out _ hk; omega
        · omega
        · omega, fun k hk => .inr hk⟩) (fun h k => h.trans k (fun j hj => .inl hj)) (kept_b (fun k hk => .inr hk))
      (fun pre X => (∃ v rs, Boxed X w1.heap.size 117 v ∧ X.ownsRow w5.heap.size 47 1 v rs.length rs ∧ RecRows X (fun k => w5.heap.size ≤ k) rs (pre.map fun z => bodyD im (z.1 + 1) z.2)) ∧ Below w1.heap.size w5 X)
      (fun _ _ _ => False)
      ?hI (fun _ => own_never _) ⟨⟨_, [], HX5.out, ⟨rfl, .inl ⟨rfl, rfl⟩⟩, rfl, fun i u b hu _ => by cases hu⟩, Below.refl _ _⟩
      (fun y a' X => a' = { tmps := #[.pointer (some ⟨p, 0, none⟩), .int .i64 n, .pointer (some ⟨W.heap.size, 0, none⟩), undef, .slice none 0 0, .int .i64 (k : Nat), .pointer (some ⟨w1.heap.size, 0, none⟩), .int .i64 (y.1 : Int), .int .i64 (y.2 : Int), .pointer (some ⟨p, 0, none⟩), .int .i64 n, .int .i64 (k : Nat), .int .i64 (k : Nat), .bool false, .pointer (some ⟨p, 0, none⟩), .pointer (some ⟨p, 0, none⟩), .pointer (some ⟨p, 0, none⟩), .pointer (some ⟨p, 1, none⟩), .slice (some ⟨gb, 0, none⟩) us.length cc, .int .i64 (k : Nat), .pointer (some ⟨gb, k * 3, none⟩), .pointer (some ⟨gb, k * 3 + 1, none⟩), .int .i64 (fi : Nat), .func (.func 145) #[] #[.pointer (some ⟨W2.heap.size + 1, 0, none⟩), .pointer (some ⟨W2.heap.size, 0, none⟩)], .int .i64 (y.1 : Int), .int .i64 (y.2 : Int), undef, undef, undef, undef, undef, undef, undef, undef, undef], defers := [] })
      (fun _ _ => own_const _ _) ?assign ?body ?done (fun _ _ _ _ _ h => h.elim)
    case hI =>
      refine OwnFrom.and ?_ (ownFrom_below (by have := HZ5.out; omega) (by have := HZ5.out; omega))
      rintro pre A C row ⟨v, rs, h1, h2, h3, h4⟩ hg hr
      refine ⟨v, rs, own_box (β := Unit) _ _ _ (fun _ => v) () A C row h1 hg hr, own_row (β := Unit) _ _ _ _ (fun _ => v) (fun _ => rs.length) (fun _ => rs) () A C row h2 hg hr, h3, fun i u b hu hb => ⟨?_, (h4 i u b hu hb).2⟩⟩
      exact own_row (β := Unit) _ 0 5 1 (fun _ => u) (fun _ => b.length) (fun _ => u8s b) () A C row (h4 i u b hu hb).1 hg hr
    case assign =>
      rintro l pre y A0 K ⟨hI1, hI2⟩ hN hK
      gi_wp2_with fail
      exact hK _ _ (KeepsFrom.refl _ _) (Kept.refl _ _) ⟨hI1, hI2⟩ rfl
    case body =>
      rintro l pre y a' A0 hl hr ⟨⟨v, rs, hv1, hv2, hv3⟩, hI2⟩ rfl hN
      have hmem := headsD_mem _ _ _ _ _ hN.mem
      have hlt := sizeD_lt (flushD d.img d.pend) y.1
      have hfb := HFb.out
      have hll := HLn.out.2.2.1
      obtain ⟨h1, h2, h3, h4, h5, h6⟩ := hmem
      obtain ⟨q, hq⟩ : ∃ q, y.1 + 1 = q := ⟨_, rfl⟩
      obtain ⟨z, hz⟩ : ∃ z, y.2 = z := ⟨_, rfl⟩
      have hbb : q + (z + 63) / 64 ≤ d.img.length / 64 := by
        rw [← hz, ← hq]
        unfold behindN at h5
        omega
      have hz1 : 1 ≤ z := by omega
      have hz2 : z ≤ 10000 := by unfold behindN at h5; omega
      have hbd : Below w1.heap.size w5 A0.drew := hI2.drew
      have HZ1 := Lib.hid (show 0 < z from hz1)
      have hkb : Kept (fun k => w1.heap.size ≤ k) w5 A0.drew := ⟨hbd.os, hbd.tape, hbd.output, hbd.size, fun k _ hk => hbd.block k (by omega)⟩
      have hw9 := HW1.out
      have hDr := hD.keep _ _ _ _ _ _ HDw.out hkb (fun k hf hk => by have := HDl.out _ hf; omega)
      have cs0 := body_any hD hDr (HSt.out.keep hkb (fun k hf hk => by have := HSl.out _ hf; omega)) q z hz1 hz2 hbb
      rw [HIm.out] at cs0
      have CS := Lib.hid cs0
      have c6 := hv1.cell
      have f6 := hv1.frozen
      have c2 : A0.cell? ⟨W.heap.size, 0, none⟩ = some (.pointer (some ⟨p, 0, none⟩)) := (show Boxed A0 W.heap.size 109 _ from (hI2.block _ (by omega)).trans HXS.out).cell
      have hqi : (y.1 : Int) + 1 = (q : Int) := by omega
      have hq9 : q ≤ 10000 := by omega
      have hzi : (y.2 : Int) = (z : Int) := by omega
      rw [hzi]
      have hl91 : w1.heap.size < A0.heap.size := hv1.lt
      have hl92 : W.heap.size < A0.heap.size := World.block_lt_of_cell? _ _ c2
      obtain ⟨Av, cv, rfl⟩ : ∃ Av cv, v = .slice Av rs.length cv := by
        rcases hv2.2 with ⟨h1, h0⟩ | ⟨g, cap, cur, h1, _⟩
        · exact ⟨none, 0, by rw [h1, h0]⟩
        · exact ⟨_, cap, h1⟩
      obtain ⟨i0, hinf, hi0, hi1, hi2⟩ := info_parts infoR
      have HIn := Lib.hid hinf
      have HV1 := Lib.hid hv1
      have HV2 := Lib.hid hv2
      have HV3 := Lib.hid hv3
      have HI2 := Lib.hid hI2
      have HLim := Lib.hid (show rs.length ≤ 64 ∧ w5.heap.size ≤ A0.heap.size from ⟨by rw [hv3.1, List.length_map]; have := hN.lt; have := headsS_len (flushD d.img d.pend) fi; omega, hI2.size⟩)
      have HBl := Lib.hid (show (bodyD im q z).length = z by
        unfold bodyD
        rw [List.length_take, List.length_drop, ← HIm.out, flushD_len _ _ HLn.out.2.2.2.1 _ HLn.out.1]
        omega)
      have HWq := Lib.hid (i64_fits (q : Int) (by omega) (by omega))
      have HQZ := Lib.hid (show bodyD im q z = bodyD im (y.1 + 1) y.2 by rw [hq, hz])
      clear h1 h2 h3 h4 h5 h6 hll hfb hlt hbb hz1 hz2 hq hz hDr cs0 hbd hN hr hI2 hv1 hv2 hv3 hkb hw9 hinf
      obtain ⟨wq, vq⟩ := HWq.out
      gi_wp2_with fail
      refine wpIn_region_any (by kernel_rfl) ?_
      refine wpAnyIn_round (noDefer (by kernel_rfl)) (fun ⟨_, _, h⟩ => h) _ _ _ _ ?_
      change wpAny _ _ _ _ _ _ _ (World.drew _)
      refine wpAny_take (i := 2) (v := ?v2) rfl (by kernel_rfl) (by kernel_rfl) (by kernel_rfl) (fun _ _ _ h => h) (Or.inl ⟨by rfl, ?h2⟩) ?r2
      case h2 =>
        intro w
        go_simp
        try with_reducible rfl
      refine wpAny_take (i := 3) (v := ?v3) rfl (by kernel_rfl) (by kernel_rfl) (by kernel_rfl) (fun _ _ _ h => h) (Or.inl ⟨by rfl, ?h3⟩) ?r3
      case h3 =>
        intro w
        go_simp
        try with_reducible rfl
      refine wpAny_take (i := 4) (v := ?v4) rfl (by kernel_rfl) (by kernel_rfl) (by kernel_rfl) (fun _ _ _ h => h) (Or.inl ⟨by rfl, ?h4⟩) ?r4
      case h4 =>
        intro w
        go_simp
        try with_reducible rfl
      refine wpAny_ready (rs := [0, 1]) (by kernel_rfl) (by simp) ?_
      refine AllReady.cons rfl (fun K hK => ?_) (AllReady.cons rfl (fun K hK => ?_) AllReady.nil)
      · go_simp
        refine hK _ _ ?_
        clear hK K
        refine wpAny_ready (rs := [1]) (by kernel_rfl) (by simp) ?_
        refine AllReady.cons rfl (fun K hK => ?_) AllReady.nil
        go_simp
        refine hK _ _ ?_
        clear hK K
        refine wpAny_ready (rs := [5]) (by kernel_rfl) (by simp) ?_
        refine AllReady.cons rfl (fun K hK => ?_) AllReady.nil
        go_simp
        (with_reducible refine (CS.out).mono ?_)
        rintro e w6 ⟨v6, rfl, ho6, hb6⟩
        obtain ⟨g6, cap6, rfl, _, _⟩ := ho6.form HZ1.out
        have HO6 := Lib.hid ho6
        have HB6 := Lib.hid hb6
        have c66 := (hb6.cell (p := ⟨w1.heap.size, 0, none⟩) hl91).trans c6
        have f66 := (hb6.frozen (p := ⟨w1.heap.size, 0, none⟩) hl91).trans f6
        have c62 := (hb6.cell (p := ⟨W.heap.size, 0, none⟩) hl92).trans c2
        have hl61 : w1.heap.size < w6.heap.size := Nat.lt_of_lt_of_le hl91 hb6.size
        have hl62 : W.heap.size < w6.heap.size := Nat.lt_of_lt_of_le hl92 hb6.size
        clear ho6 hb6
        refine hK _ _ ?_
        clear hK K
        refine wpAny_ready (rs := [6]) (by kernel_rfl) (by simp) ?_
        refine AllReady.cons rfl (fun K hK => ?_) AllReady.nil
        go_simp
        refine hK _ _ ?_
        clear hK K
        refine wpAny_ready (rs := [7]) (by kernel_rfl) (by simp) ?_
        refine AllReady.cons rfl (fun K hK => ?_) AllReady.nil
        refine step_append_row _ rfl (.tmp 26) (.tmp 32) 117 rfl w5.heap.size 47 i0 (.slice none 0 0) 24 Tryz.underlying117 HIn.out hi0 hi1 hi2 rfl (.slice Av rs.length cv) rs.length rs rfl (own_below (own_below HV2.out (below_undrew HB6.out)) ((Below.refl _ _).alloc (Nat.le_refl _) _)) (w6.heap.size + 1) (.slice (some ⟨w6.heap.size, 0, none⟩) 1 1) [.slice (some ⟨g6, 0, none⟩) z cap6] rfl (Row.new w6 47 #[.slice (some ⟨g6, 0, none⟩) z cap6] (0, 0) _ 1 rfl rfl (by decide)) ?_ ?_ ?_ ?_ ?_
        · intro u hu
          simp only [List.mem_singleton] at hu
          subst hu
          rfl
        · have h9 := HLim.out.1
          clear wq vq
          unfold maxLen
          simp only [List.length_cons, List.length_nil]
          omega
        · have h9 := HLim.out.1
          clear wq vq
          simp only [List.length_cons, List.length_nil]
          omega
        · rw [World.size_alloc]
          have h9 := HLim.out.2
          have h8 := (below_undrew HB6.out).size
          clear wq vq
          omega
        intro v9 w9 h1 h2 _ _
        obtain ⟨g9, cap9, rfl⟩ := ownsRow_succ h1
        have HF := Lib.hid (recs_fin HV1.out HV2.out HV3.out HLim.out.2 HO6.out HBl.out (below_undrew HB6.out) h1 h2)
        obtain ⟨c9, f9⟩ := HF.out.1
        have HB9 := Lib.hid (show Below w1.heap.size w5 w9 from ((HI2.out.trans ((below_undrew HB6.out).mono (Nat.le_of_lt hl91))).alloc (Nat.le_of_lt hl61) _).grown h2 (by rw [World.size_alloc]; exact Nat.le_succ_of_le (Nat.le_of_lt hl61)) (fun k e => Nat.le_trans (show w1.heap.size ≤ w5.heap.size by have h9 := HZ5.out; clear wq vq; omega) (HV2.out.lt k e).1))
        clear h1 h2
        refine hK _ _ ?_
        clear hK K
        refine wpAny_ready (rs := [8]) (by kernel_rfl) (by simp) ?_
        refine AllReady.cons rfl (fun K hK => ?_) AllReady.nil
        go_simp
        refine hK _ _ ?_
        clear hK K
        refine wpAny_done (by kernel_rfl) ?_ _
        obtain ⟨_, r1, r2, r3, r4, r5⟩ := HF.out
        refine ⟨r1, r2, ⟨_, _, r3, r4, ?_⟩, HB9.out.setCell (p := ⟨w1.heap.size, 0, none⟩) (Nat.le_refl _) _⟩
        rw [List.map_append, List.map_singleton, ← HQZ.out]
        exact r5
      · go_simp
        refine hK _ _ ?_
        clear hK K
        refine wpAny_ready (rs := [0, 5]) (by kernel_rfl) (by simp) ?_
        refine AllReady.cons rfl (fun K hK => ?_) (AllReady.cons rfl (fun K hK => ?_) AllReady.nil)
        · go_simp
          refine hK _ _ ?_
          clear hK K
          refine wpAny_ready (rs := [5]) (by kernel_rfl) (by simp) ?_
          refine AllReady.cons rfl (fun K hK => ?_) AllReady.nil
          go_simp
          (with_reducible refine (CS.out).mono ?_)
          rintro e w6 ⟨v6, rfl, ho6, hb6⟩
          obtain ⟨g6, cap6, rfl, _, _⟩ := ho6.form HZ1.out
          have HO6 := Lib.hid ho6
          have HB6 := Lib.hid hb6
          have c66 := (hb6.cell (p := ⟨w1.heap.size, 0, none⟩) hl91).trans c6
          have f66 := (hb6.frozen (p := ⟨w1.heap.size, 0, none⟩) hl91).trans f6
          have c62 := (hb6.cell (p := ⟨W.heap.size, 0, none⟩) hl92).trans c2
          have hl61 : w1.heap.size < w6.heap.size := Nat.lt_of_lt_of_le hl91 hb6.size
          have hl62 : W.heap.size < w6.heap.size := Nat.lt_of_lt_of_le hl92 hb6.size
          clear ho6 hb6
          refine hK _ _ ?_
          clear hK K
          refine wpAny_ready (rs := [6]) (by kernel_rfl) (by simp) ?_
          refine AllReady.cons rfl (fun K hK => ?_) AllReady.nil
          go_simp
          refine hK _ _ ?_
          clear hK K
          refine wpAny_ready (rs := [7]) (by kernel_rfl) (by simp) ?_
          refine AllReady.cons rfl (fun K hK => ?_) AllReady.nil
          refine step_append_row _ rfl (.tmp 26) (.tmp 32) 117 rfl w5.heap.size 47 i0 (.slice none 0 0) 24 Tryz.underlying117 HIn.out hi0 hi1 hi2 rfl (.slice Av rs.length cv) rs.length rs rfl (own_below (own_below HV2.out (below_undrew HB6.out)) ((Below.refl _ _).alloc (Nat.le_refl _) _)) (w6.heap.size + 1) (.slice (some ⟨w6.heap.size, 0, none⟩) 1 1) [.slice (some ⟨g6, 0, none⟩) z cap6] rfl (Row.new w6 47 #[.slice (some ⟨g6, 0, none⟩) z cap6] (0, 0) _ 1 rfl rfl (by decide)) ?_ ?_ ?_ ?_ ?_
          · intro u hu
            simp only [List.mem_singleton] at hu
            subst hu
            rfl
          · have h9 := HLim.out.1
            clear wq vq
            unfold maxLen
            simp only [List.length_cons, List.length_nil]
            omega
          · have h9 := HLim.out.1
            clear wq vq
            simp only [List.length_cons, List.length_nil]
            omega
          · rw [World.size_alloc]
            have h9 := HLim.out.2
            have h8 := (below_undrew HB6.out).size
            clear wq vq
            omega
          intro v9 w9 h1 h2 _ _
          obtain ⟨g9, cap9, rfl⟩ := ownsRow_succ h1
          have HF := Lib.hid (recs_fin HV1.out HV2.out HV3.out HLim.out.2 HO6.out HBl.out (below_undrew HB6.out) h1 h2)
          obtain ⟨c9, f9⟩ := HF.out.1
          have HB9 := Lib.hid (show Below w1.heap.size w5 w9 from ((HI2.out.trans ((below_undrew HB6.out).mono (Nat.le_of_lt hl91))).alloc (Nat.le_of_lt hl61) _).grown h2 (by rw [World.size_alloc]; exact Nat.le_succ_of_le (Nat.le_of_lt hl61)) (fun k e => Nat.le_trans (show w1.heap.size ≤ w5.heap.size by have h9 := HZ5.out; clear wq vq; omega) (HV2.out.lt k e).1))
          clear h1 h2
          refine hK _ _ ?_
          clear hK K
          refine wpAny_ready (rs := [8]) (by kernel_rfl) (by simp) ?_
          refine AllReady.cons rfl (fun K hK => ?_) AllReady.nil
          go_simp
          refine hK _ _ ?_
          clear hK K
          refine wpAny_done (by kernel_rfl) ?_ _
          obtain ⟨_, r1, r2, r3, r4, r5⟩ := HF.out
          refine ⟨r1, r2, ⟨_, _, r3, r4, ?_⟩, HB9.out.setCell (p := ⟨w1.heap.size, 0, none⟩) (Nat.le_refl _) _⟩
          rw [List.map_append, List.map_singleton, ← HQZ.out]
          exact r5
        · go_simp
          (with_reducible refine (CS.out).mono ?_)
          rintro e w6 ⟨v6, rfl, ho6, hb6⟩
          obtain ⟨g6, cap6, rfl, _, _⟩ := ho6.form HZ1.out
          have HO6 := Lib.hid ho6
          have HB6 := Lib.hid hb6
          have c66 := (hb6.cell (p := ⟨w1.heap.size, 0, none⟩) hl91).trans c6
          have f66 := (hb6.frozen (p := ⟨w1.heap.size, 0, none⟩) hl91).trans f6
          have c62 := (hb6.cell (p := ⟨W.heap.size, 0, none⟩) hl92).trans c2
          have hl61 : w1.heap.size < w6.heap.size := Nat.lt_of_lt_of_le hl91 hb6.size
          have hl62 : W.heap.size < w6.heap.size := Nat.lt_of_lt_of_le hl92 hb6.size
          clear ho6 hb6
          refine hK _ _ ?_
          clear hK K
          refine wpAny_ready (rs := [0, 6]) (by kernel_rfl) (by simp) ?_
          refine AllReady.cons rfl (fun K hK => ?_) (AllReady.cons rfl (fun K hK => ?_) AllReady.nil)
          · go_simp
            refine hK _ _ ?_
            clear hK K
            refine wpAny_ready (rs := [6]) (by kernel_rfl) (by simp) ?_
            refine AllReady.cons rfl (fun K hK => ?_) AllReady.nil
            go_simp
            refine hK _ _ ?_
            clear hK K
            refine wpAny_ready (rs := [7]) (by kernel_rfl) (by simp) ?_
            refine AllReady.cons rfl (fun K hK => ?_) AllReady.nil
            refine step_append_row _ rfl (.tmp 26) (.tmp 32) 117 rfl w5.heap.size 47 i0 (.slice none 0 0) 24 Tryz.underlying117 HIn.out hi0 hi1 hi2 rfl (.slice Av rs.length cv) rs.length rs rfl (own_below (own_below HV2.out (below_undrew HB6.out)) ((Below.refl _ _).alloc (Nat.le_refl _) _)) (w6.heap.size + 1) (.slice (some ⟨w6.heap.size, 0, none⟩) 1 1) [.slice (some ⟨g6, 0, none⟩) z cap6] rfl (Row.new w6 47 #[.slice (some ⟨g6, 0, none⟩) z cap6] (0, 0) _ 1 rfl rfl (by decide)) ?_ ?_ ?_ ?_ ?_
            · intro u hu
              simp only [List.mem_singleton] at hu
              subst hu
              rfl
            · have h9 := HLim.out.1
              clear wq vq
              unfold maxLen
              simp only [List.length_cons, List.length_nil]
              omega
            · have h9 := HLim.out.1
              clear wq vq
              simp only [List.length_cons, List.length_nil]
              omega
            · rw [World.size_alloc]
              have h9 := HLim.out.2
              have h8 := (below_undrew HB6.out).size
              clear wq vq
              omega
            intro v9 w9 h1 h2 _ _
            obtain ⟨g9, cap9, rfl⟩ := ownsRow_succ h1
            have HF := Lib.hid (recs_fin HV1.out HV2.out HV3.out HLim.out.2 HO6.out HBl.out (below_undrew HB6.out) h1 h2)
            obtain ⟨c9, f9⟩ := HF.out.1
            have HB9 := Lib.hid (show Below w1.heap.size w5 w9 from ((HI2.out.trans ((below_undrew HB6.out).mono (Nat.le_of_lt hl91))).alloc (Nat.le_of_lt hl61) _).grown h2 (by rw [World.size_alloc]; exact Nat.le_succ_of_le (Nat.le_of_lt hl61)) (fun k e => Nat.le_trans (show w1.heap.size ≤ w5.heap.size by have h9 := HZ5.out; clear wq vq; omega) (HV2.out.lt k e).1))
            clear h1 h2
            refine hK _ _ ?_
            clear hK K
            refine wpAny_ready (rs := [8]) (by kernel_rfl) (by simp) ?_
            refine AllReady.cons rfl (fun K hK => ?_) AllReady.nil
            go_simp
            refine hK _ _ ?_
            clear hK K
            refine wpAny_done (by kernel_rfl) ?_ _
            obtain ⟨_, r1, r2, r3, r4, r5⟩ := HF.out
            refine ⟨r1, r2, ⟨_, _, r3, r4, ?_⟩, HB9.out.setCell (p := ⟨w1.heap.size, 0, none⟩) (Nat.le_refl _) _⟩
            rw [List.map_append, List.map_singleton, ← HQZ.out]
            exact r5
          · go_simp
            refine hK _ _ ?_
            clear hK K
            refine wpAny_ready (rs := [0]) (by kernel_rfl) (by simp) ?_
            refine AllReady.cons rfl (fun K hK => ?_) AllReady.nil
            go_simp
            refine hK _ _ ?_
            clear hK K
            refine wpAny_ready (rs := [7]) (by kernel_rfl) (by simp) ?_
            refine AllReady.cons rfl (fun K hK => ?_) AllReady.nil
            refine step_append_row _ rfl (.tmp 26) (.tmp 32) 117 rfl w5.heap.size 47 i0 (.slice none 0 0) 24 Tryz.underlying117 HIn.out hi0 hi1 hi2 rfl (.slice Av rs.length cv) rs.length rs rfl (own_below (own_below HV2.out (below_undrew HB6.out)) ((Below.refl _ _).alloc (Nat.le_refl _) _)) (w6.heap.size + 1) (.slice (some ⟨w6.heap.size, 0, none⟩) 1 1) [.slice (some ⟨g6, 0, none⟩) z cap6] rfl (Row.new w6 47 #[.slice (some ⟨g6, 0, none⟩) z cap6] (0, 0) _ 1 rfl rfl (by decide)) ?_ ?_ ?_ ?_ ?_
            · intro u hu
              simp only [List.mem_singleton] at hu
              subst hu
              rfl
            · have h9 := HLim.out.1
              clear wq vq
              unfold maxLen
              simp only [List.length_cons, List.length_nil]
              omega
            · have h9 := HLim.out.1
              clear wq vq
              simp only [List.length_cons, List.length_nil]
              omega
            · rw [World.size_alloc]
              have h9 := HLim.out.2
              have h8 := (below_undrew HB6.out).size
              clear wq vq
              omega
            intro v9 w9 h1 h2 _ _
            obtain ⟨g9, cap9, rfl⟩ := ownsRow_succ h1
            have HF := Lib.hid (recs_fin HV1.out HV2.out HV3.out HLim.out.2 HO6.out HBl.out (below_undrew HB6.out) h1 h2)
            obtain ⟨c9, f9⟩ := HF.out.1
            have HB9 := Lib.hid (show Below w1.heap.size w5 w9 from ((HI2.out.trans ((below_undrew HB6.out).mono (Nat.le_of_lt hl91))).alloc (Nat.le_of_lt hl61) _).grown h2 (by rw [World.size_alloc]; exact Nat.le_succ_of_le (Nat.le_of_lt hl61)) (fun k e => Nat.le_trans (show w1.heap.size ≤ w5.heap.size by have h9 := HZ5.out; clear wq vq; omega) (HV2.out.lt k e).1))
            clear h1 h2
            refine hK _ _ ?_
            clear hK K
            refine wpAny_ready (rs := [8]) (by kernel_rfl) (by simp) ?_
            refine AllReady.cons rfl (fun K hK => ?_) AllReady.nil
            go_simp
            refine hK _ _ ?_
            clear hK K
            refine wpAny_done (by kernel_rfl) ?_ _
            obtain ⟨_, r1, r2, r3, r4, r5⟩ := HF.out
            refine ⟨r1, r2, ⟨_, _, r3, r4, ?_⟩, HB9.out.setCell (p := ⟨w1.heap.size, 0, none⟩) (Nat.le_refl _) _⟩
            rw [List.map_append, List.map_singleton, ← HQZ.out]
            exact r5
    case done =>
      rintro D0 A0 hD0 ⟨⟨v, rs, hv1, hv2, hv3⟩, hI2⟩ hdf
      obtain ⟨Av, cv, rfl⟩ : ∃ Av cv, v = .slice Av rs.length cv := by
        rcases hv2.2 with ⟨h1, h0⟩ | ⟨g, cap, cur, h1, _⟩
        · exact ⟨none, 0, by rw [h1, h0]⟩
        · exact ⟨_, cap, h1⟩
      have cn := hv1.cell
      rw [HIm.out] at hv3
      have HV2 := Lib.hid hv2
      have HV3 := Lib.hid hv3
      have HI2 := Lib.hid hI2
      have HDF := Lib.hid hdf
      have HDz := Lib.hid hD0
      clear hv1 hv2 hv3 hI2 hdf hD0
      gi_wp2_with fail
      refine ⟨by simp, .inl ⟨_, _, rfl, run_takeDeferred HDF.out, ?_⟩⟩
      have hput : ∀ {e : TypeId} {base size m : Nat} {u : Value} {xs : List Value}, A0.ownsRow base e size u m xs → (A0.putObj D0 (.deferred none)).ownsRow base e size u m xs := fun h => ownsRow_putObj h _ HDF.out rfl
      refine ⟨_, results_tmp rfl _ _ _, _, rfl, ?_, below_put (HBW.out.trans (HI2.out.mono (Nat.le_of_lt hl1))) ?_ ?_⟩
      · rw [HR.out]
        have h2 := hput HV2.out
        refine ⟨rs, Row.of_own h2 (Nat.le_refl _), HV3.out.1, fun i u p hu hp => ?_⟩
        exact Bytes.of_own (hput (HV3.out.2 i u p hu hp).1)
      · have h8 := HI2.out.size
        have h9 := HZ5.out
        omega
      · have h8 := HDz.out
        have h9 := HZ5.out
        omega
end
end Go.Proofs.YtiafamacjpgjoaaGreatDoor

/- Records as they stand in an image, one behind the other. It speaks of no program. -/
namespace Go.Proofs.YtiafamacjpgjoaaGreatDoor
open Go.RowKit Tide

structure RecAt (im : List UInt8) (lim i : Nat) (b : List UInt8) : Prop where
  size : 1 ≤ b.length ∧ b.length ≤ 3968
  mark : markD im i = some 1
  head : sizeD im i = b.length
  body : bodyD im (i + 1) b.length = b
  fits : behindN i b.length ≤ lim
def RecsAt (im : List UInt8) (lim : Nat) : Nat → List (List UInt8) → Prop
  | i, [] => i < lim → markD im i ≠ some 1
  | i, b :: bs => RecAt im lim i b ∧ RecsAt im lim (behindN i b.length) bs
def headsL : Nat → List (List UInt8) → List (Nat × Nat)
  | _, [] => []
  | i, b :: bs => (i, b.length) :: headsL (behindN i b.length) bs
def endL (i : Nat) (bs : List (List UInt8)) : Nat := i + (bs.map fun b => needD b.length).sum
theorem behind_need (i n : Nat) : behindN i n = i + needD n := by unfold behindN needD; omega
theorem endL_cons (i : Nat) (b : List UInt8) (bs : List (List UInt8)) : endL i (b :: bs) = endL (behindN i b.length) bs := by
  unfold endL
  rw [behind_need, List.map_cons, List.sum_cons]; omega
theorem endL_ge (i : Nat) (bs : List (List UInt8)) : i ≤ endL i bs := by unfold endL; omega
theorem endL_len : ∀ (i : Nat) (bs : List (List UInt8)), i + bs.length ≤ endL i bs
  | i, [] => by simp [endL]
  | i, b :: bs => by
    have := endL_len (behindN i b.length) bs
    rw [endL_cons, List.length_cons]
    unfold behindN at *
    omega
variable {im im' : List UInt8} {lim : Nat}
theorem headsD_of : ∀ {bs : List (List UInt8)} {i k : Nat}, RecsAt im lim i bs → bs.length ≤ k → headsD im lim k i = headsL i bs
  | [], i, k, h, _ => headsD_nil im lim k i (fun hc => h hc.1 hc.2.1)
  | b :: bs, i, 0, _, hk => by simp at hk
  | b :: bs, i, k + 1, h, hk => by
    obtain ⟨h1, h2⟩ := h
    have hi : i < lim := by have := h1.fits; unfold behindN at this; omega
    unfold headsD
    rw [h1.head, if_pos ⟨hi, h1.mark, by have := h1.size; omega, h1.fits⟩, headsD_of h2 (by simpa using hk)]
    rfl
theorem headsL_end : ∀ (i : Nat) (bs : List (List UInt8)), ((headsL i bs).getLast?.map fun x => behindN x.1 x.2).getD i = endL i bs
  | i, [] => by simp [headsL, endL]
  | i, [b] => by
    rw [endL_cons]
    simp [headsL, endL]
  | i, b :: c :: bs => by
    have ih := headsL_end (behindN i b.length) (c :: bs)
    rw [endL_cons, ← ih]
    simp only [headsL, List.getLast?_cons_cons]
    cases h : ((behindN i b.length, c.length) :: headsL (behindN (behindN i b.length) c.length) bs).getLast? with
    | none => simp at h
    | some x => rfl
theorem headsL_body : ∀ {bs : List (List UInt8)} {i : Nat}, RecsAt im lim i bs → (headsL i bs).map (fun z => bodyD im (z.1 + 1) z.2) = bs
  | [], _, _ => rfl
  | b :: bs, i, h => by
    obtain ⟨h1, h2⟩ := h
    rw [headsL, List.map_cons, headsL_body h2, h1.body]
theorem recsAt_end : ∀ {bs : List (List UInt8)} {i : Nat}, RecsAt im lim i bs → i ≤ lim → endL i bs ≤ lim
  | [], i, _, h => by simpa [endL] using h
  | b :: bs, i, h, _ => by
    rw [endL_cons]
    exact recsAt_end h.2 h.1.fits
theorem RecAt.congr {i : Nat} {b : List UInt8} (h : RecAt im lim i b) (he : ∀ j, i ≤ j → j < behindN i b.length → sect im' j = sect im j) : RecAt im' lim i b where
  size := h.size
  mark := by rw [mark_sect, he i (Nat.le_refl _) (by unfold behindN; omega), ← mark_sect]; exact h.mark
  head := by unfold sizeD; rw [he i (Nat.le_refl _) (by unfold behindN; omega)]; exact h.head
  body := by
    rw [bodyD_congr (im := im) (fun j h1 h2 => he j (by omega) (by unfold behindN; omega))]
    exact h.body
  fits := h.fits
theorem RecsAt.congr : ∀ {bs : List (List UInt8)} {i : Nat}, RecsAt im lim i bs → (∀ j, i ≤ j → j < lim → j ≤ endL i bs → sect im' j = sect im j) → RecsAt im' lim i bs
  | [], i, h, he => fun hi => by
    rw [mark_sect, he i (Nat.le_refl _) hi (endL_ge _ _), ← mark_sect]
    exact h hi
  | b :: bs, i, h, he => by
    have hg := endL_ge (behindN i b.length) bs
    have hf := h.1.fits
    rw [endL_cons] at he
    refine ⟨h.1.congr fun j h1 h2 => he j h1 (by omega) (by omega), h.2.congr fun j h1 h2 h3 => he j (by unfold behindN at h1; omega) h2 h3⟩
theorem RecsAt.snoc : ∀ {bs : List (List UInt8)} {i : Nat} {b : List UInt8}, RecsAt im lim i bs → (∀ j, i ≤ j → j < endL i bs → sect im' j = sect im j) → RecAt im' lim (endL i bs) b → (behindN (endL i bs) b.length < lim → markD im' (behindN (endL i bs) b.length) ≠ some 1) → RecsAt im' lim i (bs ++ [b])
  | [], i, b, _, _, h1, h2 => by
    have e : endL i [] = i := by simp [endL]
    rw [e] at h1 h2
    exact ⟨h1, h2⟩
  | c :: bs, i, b, h, he, h1, h2 => by
    rw [endL_cons] at he h1 h2
    have hg := endL_ge (behindN i c.length) bs
    refine ⟨h.1.congr fun j h3 h4 => he j h3 (by omega), h.2.snoc (fun j h3 h4 => he j (by unfold behindN at h3; omega) h4) h1 h2⟩
end Go.Proofs.YtiafamacjpgjoaaGreatDoor

/- An image that holds a store: what keeps that, and what makes another store of it. It speaks of no program. -/
namespace Go.Proofs.YtiafamacjpgjoaaGreatDoor
open Go.RowKit Tide

theorem RecsAt.tail {im im' : List UInt8} {lim : Nat} : ∀ {bs : List (List UInt8)} {i : Nat}, RecsAt im lim i bs → (∀ j, i ≤ j → j < endL i bs → sect im' j = sect im j) → (endL i bs < lim → markD im' (endL i bs) ≠ some 1) → RecsAt im' lim i bs
  | [], i, h, he, hm => by
    have e : endL i [] = i := by simp [endL]
    rw [e] at hm
    exact hm
  | b :: bs, i, h, he, hm => by
    have hg := endL_ge (behindN i b.length) bs
    rw [endL_cons] at he hm
    exact ⟨h.1.congr fun j h1 h2 => he j h1 (by omega), h.2.tail (fun j h1 h2 => he j (by unfold behindN at h1; omega) h2) hm⟩
structure SegAt (im : List UInt8) (g : SegD) : Prop where
  mark : markD im (64 * g.place) = some 1
  num : leN ((sect im (64 * g.place)).take 8) = g.number
  recs : RecsAt im (64 * g.place + 64) (64 * g.place + 1) g.recs
structure LiesM (n : Nat) (im : List UInt8) (m : StoD) : Prop where
  len : im.length = 64 * n
  places : m.places = n / 64
  segs : ∀ g ∈ m.segs, SegAt im g
  free : ∀ p, p < m.places → (∀ g ∈ m.segs, g.place ≠ p) → markD im (64 * p) ≠ some 1
  wf : m.Wf
theorem SegAt.congr {im im' : List UInt8} {g : SegD} (h : SegAt im g) (he : ∀ j, 64 * g.place ≤ j → j < 64 * g.place + 64 → sect im' j = sect im j) : SegAt im' g where
  mark := by rw [mark_sect, he _ (Nat.le_refl _) (by omega), ← mark_sect]; exact h.mark
  num := by rw [he _ (Nat.le_refl _) (by omega)]; exact h.num
  recs := h.recs.congr fun j h1 h2 _ => he j (by omega) h2
theorem mark_eq {im im' : List UInt8} {i : Nat} (h : sect im' i = sect im i) : markD im' i = markD im i := by rw [mark_sect, h, ← mark_sect]
def endG (g : SegD) : Nat := 64 * g.place + 1 + g.sectors
theorem endG_of {s : StoD} (h : s.Wf) {g : SegD} (hg : g ∈ s.segs) : endL (64 * g.place + 1) g.recs = endG g := by
  have := (h.recs g hg).1
  unfold endL endG
  omega
section
variable {n : Nat} {im im' : List UInt8} {m : StoD}
theorem LiesM.on (h : LiesM n im m) {g : SegD} (hg : g ∈ m.segs) : 64 * g.place + 64 ≤ n := by
  have h1 := h.wf.place g hg
  rw [h.places] at h1
  omega
theorem LiesM.outside (h : LiesM n im m) (hl : im'.length = 64 * n) {P : Nat} (hP : ∀ g ∈ m.segs, g.place ≠ P) (he : ∀ j, j < 64 * P ∨ 64 * P + 64 ≤ j → sect im' j = sect im j) (hm : markD im' (64 * P) ≠ some 1) : LiesM n im' m where
  len := hl
  places := h.places
  segs := fun g hg => (h.segs g hg).congr fun j h1 h2 => he j (by have := hP g hg; omega)
  free := fun p hp hf => by
    by_cases e : p = P
    · subst e; exact hm
    · rw [mark_eq (he (64 * p) (by omega))]
      exact h.free p hp hf
  wf := h.wf
theorem LiesM.taken (h : LiesM n im m) (hl : im'.length = 64 * n) {P no : Nat} (hP : ∀ g ∈ m.segs, g.place ≠ P) (he : ∀ j, j < 64 * P ∨ 64 * P + 64 ≤ j → sect im' j = sect im j) (hm : markD im' (64 * P) = some 1) (hno : leN ((sect im' (64 * P)).take 8) = no) (h1 : markD im' (64 * P + 1) ≠ some 1)
    (hw : ({ m with segs := m.segs ++ [⟨P, no, 0, []⟩] } : StoD).Wf) : LiesM n im' { m with segs := m.segs ++ [⟨P, no, 0, []⟩] } where
  len := hl
  places := h.places
  segs := fun g hg => by
    rcases List.mem_append.1 hg with hg | hg
    · exact (h.segs g hg).congr fun j h1 h2 => he j (by have := hP g hg; omega)
    · simp only [List.mem_singleton] at hg
      subst hg
      exact ⟨hm, hno, fun _ => h1⟩
  free := fun p hp hf => by
    have hne : P ≠ p := hf ⟨P, no, 0, []⟩ (by simp)
    rw [mark_eq (he (64 * p) (by omega))]
    exact h.free p hp (fun g hg => hf g (by simp [hg]))
  wf := hw
theorem LiesM.behind (h : LiesM n im m) (hl : im'.length = 64 * n) {g : SegD} (hg : g ∈ m.segs) (he : ∀ j, j < endG g ∨ 64 * g.place + 64 ≤ j → sect im' j = sect im j) (hm : endG g < 64 * g.place + 64 → markD im' (endG g) ≠ some 1) : LiesM n im' m where
  len := hl
  places := h.places
  segs := fun x hx => by
    by_cases e : x.place = g.place
    · have hxg : x = g := by
        have h1 := h.wf.apart
        obtain ⟨i, hi, rfl⟩ := List.getElem_of_mem hx
        obtain ⟨j, hj, rfl⟩ := List.getElem_of_mem hg
        have h2 := (List.pairwise_iff_getElem.1 h1)
        by_cases hij : i = j
        · subst hij; rfl
        · rcases Nat.lt_or_gt_of_ne hij with h3 | h3
          · exact absurd (by rw [List.getElem_map, List.getElem_map]; exact e) (h2 i j (by simpa using hi) (by simpa using hj) h3)
          · exact absurd (by rw [List.getElem_map, List.getElem_map]; exact e.symm) (h2 j i (by simpa using hj) (by simpa using hi) h3)
      subst hxg
      have h1 := h.segs x hx
      have hge : 64 * x.place + 1 ≤ endG x := by unfold endG; omega
      refine ⟨?_, ?_, h1.recs.tail (fun j h2 h3 => he j ?_) ?_⟩
      · rw [mark_eq (he _ (by omega))]; exact h1.mark
      · rw [he _ (by omega)]; exact h1.num
      · rw [endG_of h.wf hx] at h3; exact .inl h3
      · rw [endG_of h.wf hx]; exact hm
    · exact (h.segs x hx).congr fun j h1 h2 => he j (by unfold endG; omega)
  free := fun p hp hf => by
    have hne := hf g hg
    rw [mark_eq (he (64 * p) (by unfold endG; omega))]
    exact h.free p hp hf
  wf := h.wf
theorem LiesM.pushed {l : List SegD} {g : SegD} {b : List UInt8} (h : LiesM n im { m with segs := l ++ [g] }) (hl : im'.length = 64 * n) (he : ∀ j, j < endG g ∨ 64 * g.place + 64 ≤ j → sect im' j = sect im j)
    (h1 : RecAt im' (64 * g.place + 64) (endG g) b) (h2 : behindN (endG g) b.length < 64 * g.place + 64 → markD im' (behindN (endG g) b.length) ≠ some 1) (hw : ({ m with segs := l ++ [g.push b] } : StoD).Wf) : LiesM n im' { m with segs := l ++ [g.push b] } where
  len := hl
  places := h.places
  segs := fun x hx => by
    have hgm : g ∈ l ++ [g] := by simp
    rcases List.mem_append.1 hx with hx | hx
    · have hne : x.place ≠ g.place := by
        have h3 := h.wf.apart
        simp only [List.map_append, List.map_cons, List.map_nil] at h3
        exact (List.pairwise_append.1 h3).2.2 x.place (List.mem_map.2 ⟨x, hx, rfl⟩) g.place (by simp)
      exact (h.segs x (List.mem_append_left _ hx)).congr fun j h1 h2 => he j (by unfold endG; omega)
    · simp only [List.mem_singleton] at hx
      subst hx
      have h3 := h.segs g hgm
      have hge : 64 * g.place + 1 ≤ endG g := by unfold endG; omega
      have hend := endG_of h.wf hgm
      refine ⟨?_, ?_, ?_⟩
      · show markD im' (64 * g.place) = _
        rw [mark_eq (he _ (by omega))]; exact h3.mark
      · show leN ((sect im' (64 * g.place)).take 8) = g.number
        rw [he _ (by omega)]; exact h3.num
      · show RecsAt im' (64 * g.place + 64) (64 * g.place + 1) (g.recs ++ [b])
        exact h3.recs.snoc (fun j h4 h5 => he j (by rw [hend] at h5; exact .inl h5)) (by rw [hend]; exact h1) (by rw [hend]; exact h2)
  free := fun p hp hf => by
    have hne : g.place ≠ p := hf (g.push b) (by simp)
    rw [mark_eq (he (64 * p) (by unfold endG; omega))]
    refine h.free p hp fun x hx => ?_
    rcases List.mem_append.1 hx with hx | hx
    · exact hf x (List.mem_append_left _ hx)
    · simp only [List.mem_singleton] at hx
      subst hx
      exact hne
  wf := hw
theorem LiesM.dropped (h : LiesM n im m) (hl : im'.length = 64 * n) {i : Nat} (hi : i < m.segs.length) (he : ∀ j, j ≠ 64 * (m.segs[i]).place → sect im' j = sect im j) (hm : markD im' (64 * (m.segs[i]).place) ≠ some 1) (hw : ({ m with segs := m.segs.eraseIdx i } : StoD).Wf) : LiesM n im' { m with segs := m.segs.eraseIdx i } where
  len := hl
  places := h.places
  segs := fun x hx => by
    obtain ⟨k, hk, hx⟩ := List.mem_eraseIdx_iff_getElem.1 hx
    obtain ⟨hki, rfl⟩ := hx
    have h1 := List.pairwise_iff_getElem.1 h.wf.apart
    have hne : (m.segs[k]).place ≠ (m.segs[i]).place := by
      rcases Nat.lt_or_gt_of_ne hki with h3 | h3
      · have := h1 k i (by simpa using hk) (by simpa using hi) h3
        simpa using this
      · have := h1 i k (by simpa using hi) (by simpa using hk) h3
        simp at this
        exact fun e => this e.symm
    exact (h.segs _ (List.getElem_mem hk)).congr fun j h1 h2 => he j (by omega)
  free := fun p hp hf => by
    by_cases e : (m.segs[i]).place = p
    · rw [← e]; exact hm
    · rw [mark_eq (he (64 * p) (by omega))]
      refine h.free p hp fun x hx => ?_
      obtain ⟨k, hk, rfl⟩ := List.getElem_of_mem hx
      by_cases hki : k = i
      · subst hki; exact e
      · exact hf _ (List.mem_eraseIdx_iff_getElem.2 ⟨k, hk, hki, rfl⟩)
  wf := hw
theorem LiesM.same (h : LiesM n im m) (hl : im'.length = 64 * n) (he : ∀ j, sect im' j = sect im j) : LiesM n im' m where
  len := hl
  places := h.places
  segs := fun g hg => (h.segs g hg).congr fun j _ _ => he j
  free := fun p hp hf => by rw [mark_eq (he (64 * p))]; exact h.free p hp hf
  wf := h.wf
end
end Go.Proofs.YtiafamacjpgjoaaGreatDoor
