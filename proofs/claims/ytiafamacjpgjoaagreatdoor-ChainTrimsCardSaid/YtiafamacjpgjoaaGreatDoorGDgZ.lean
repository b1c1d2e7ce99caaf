/- What a device makes of an outcome: the durable bytes, and what is read. -/
import Derived.Test.YtiafamacjpgjoaaGreatDoorGDgY
import Derived.Test.YtiafamacjpgjoaaGreatDoorGDgU
import Derived.Deep.RegionHeld3
import Derived.Shelf.Abstract
namespace Go.Proofs.YtiafamacjpgjoaaGreatDoor
open Go.RowKit Go.Shelf Tide
attribute [local go_sem] Oper.semAt_some

def OutI (img : List UInt8) (bd cd : Nat) (w : World) (pre : List (Wr × Nat)) (W : World) : Prop := W.ownsRow 0 5 1 (sl bd img.length cd) img.length (u8s (outC img pre)) ∧ Kept (fun k => k = bd) w W

theorem out_step (img : List UInt8) (pre : List (Wr × Nat)) (x : Wr × Nat) : splice (u8s (outC img pre)) (64 * x.1.sec) (u8s (x.1.b.take x.2)) = u8s (outC img (pre ++ [x])) := by
  rw [outC_snoc, u8s_splice]
theorem DevB.other {W A : World} {F : Nat → Prop} {p : Nat} {img now : List UInt8} {ts : List Wr} {bd cd bn cn : Nat} {vp : Value} {st : Bool} {lf : Nat} (h : DevB W F p img now ts bd cd bn cn vp st lf) (hK : Kept (fun k => k = bd) W A) : A.cell? ⟨p, 0, none⟩ = some (sl bd img.length cd) := by
  rw [cell_of_row _ _ 0 _ _ _ (hK.heap h.block h.ne.1)]; rfl
theorem back_snoc (d now : List UInt8) (pre : List (Nat × List UInt8)) (x : Nat × List UInt8) : backD d now (pre ++ [x]) = putS (backD d now pre) (x.1, sect d x.1) := by
  unfold backD
  rw [List.map_append]
  exact flush_snoc _ _ _
theorem outC_length {img : List UInt8} {ts : List Wr} (h : RightD img ts) (c : Nat → Nat) (hc : ∀ k, c k ≤ 64) : (outC img (cutsW c ts)).length = img.length := (outC_len _ _ _ (cuts_fits h c hc) h.imgs).trans h.imgs.symm
theorem DevB.still {W W' : World} {F : Nat → Prop} {p : Nat} {img now : List UInt8} {ts : List Wr} {bd cd bn cn : Nat} {vp : Value} {st : Bool} {lf : Nat} (h : DevB W F p img now ts bd cd bn cn vp st lf) {X T : Nat} {t : TypeId} {v u : Value} (hx : Boxed W X t v) (hX : bn ≠ X) (hT : W.cell? ⟨T, 0, none⟩ = some u) (hTn : T ≠ bn) (hg : W.grownBy W' (some bn)) :
    W'.cell? ⟨X, 0, none⟩ = some v ∧ W'.cell? ⟨p, 1, none⟩ = some (sl bn img.length cn) ∧ W'.cell? ⟨p, 0, none⟩ = some (sl bd img.length cd) ∧ W'.cell? ⟨T, 0, none⟩ = some u := by
  have hK : Kept (fun k => k = bn) W W' := (Kept.refl _ _).grown hg (fun k e => .inl (by injection e with e; exact e.symm))
  obtain ⟨c0, c1, _⟩ := h.facts
  refine ⟨(hK.cell (p := ⟨X, 0, none⟩) hx.lt (fun e => hX e.symm)).trans hx.cell, (hK.cell (p := ⟨p, 1, none⟩) h.plt h.ne.2.1).trans c1, (hK.cell (p := ⟨p, 0, none⟩) h.plt h.ne.2.1).trans c0, (hK.cell (p := ⟨T, 0, none⟩) (World.block_lt_of_cell? _ _ hT) hTn).trans hT⟩
set_option maxRecDepth 100000 in
set_option maxHeartbeats 4000000 in
theorem settle_any {W : World} {F : Nat → Prop} {p : Nat} {img : List UInt8} {ts : List Wr} {bd cd bn cn : Nat} {vp : Value} {st : Bool} {lf : Nat} (h : DevB W F p img (flushD img (ts.map Wr.pair)) ts bd cd bn cn vp st lf) (hr : RightD img ts) (hL : img.length ≤ 30000) (hn : ts.length ≤ 1000)
    (kv torn cut : Int) (b : Nat) (hb : Boxes W b p kv torn cut) (hbd : b ≠ bd ∧ b + 1 ≠ bd ∧ b + 2 ≠ bd ∧ b + 3 ≠ bd) :
    Calls Tryz.prog 170 #[.pointer (some ⟨p, 0, none⟩), .func (.func 174) #[] (outV b)] W fun e w' => e = .returned (.tuple #[]) ∧ DevB w' F p (outC img (cutsW (cutN kv torn cut) ts)) (outC img (cutsW (cutN kv torn cut) ts)) [] bd cd bn cn (.slice none 0 0) st lf ∧ Kept F W w' := by
  have HR := Lib.hid hr
  have ba := (Below.refl W.heap.size W).alloc (Nat.le_refl _) (.cells #[.pointer (some ⟨p, 0, none⟩)] 89)
  have HD := Lib.hid (h.below ba)
  have HBX := Lib.hid (show Boxes (W.alloc (.cells #[.pointer (some ⟨p, 0, none⟩)] 89)) b p kv torn cut from ⟨hb.dev.alloc _, hb.kept.alloc _, hb.torn.alloc _, hb.cut.alloc _⟩)
  have hx := Boxed.new W 89 (.pointer (some ⟨p, 0, none⟩))
  have hpl := h.plt
  have HK0 := Lib.hid (Kept.of_below (F := F) ba)
  have HFl := Lib.hid h.lt
  clear h hr hb ba
  refine (callsIn_wide (n := 5)).1 ?_
  refine callsIn_of_wp_marks Tryz.func170 rfl trivial ?_ rfl
  simp only [Tryz.ntmps170, List.size_toArray, List.length_cons, List.length_nil, Nat.reduceAdd, Nat.reduceSub, Array.replicate_succ, Array.replicate_zero, List.push_toArray, List.append_toArray, List.nil_append, List.cons_append]
  gi_wp2_with fail
  generalize hW0 : W.alloc (.cells #[.pointer (some ⟨p, 0, none⟩)] 89) = W0 at *
  have hz0 : W0.heap.size = W.heap.size + 1 := by rw [← hW0, World.size_alloc]
  have hbdl : bd < W.heap.size := by
    have h1 := HD.out.dur.lt bd rfl
    have h2 : bd ≠ W.heap.size := fun e => hx.not_row (by decide) HD.out.dur (by rw [← e]; rfl)
    omega
  have HZ0 := Lib.hid hz0
  have HX := Lib.hid hx
  clear hW0 hz0 hx
  refine range_z rfl (by omega) (gf := 174) (lb := outV b) rfl trivial (enters_of Tryz.func174 (by kernel_rfl) rfl)
    (fun _ => rfl) (outcome_z _ (by omega) kv torn cut b W0 HD.out hn HBX.out hbd) Kz_t (fun W l o h => Kz_b W l o h)
    (OutI img bd cd W0) ?hI ?hIo ⟨HD.out.dur, Kept.refl _ _⟩
    (fun (x : Wr × Nat) => { tmps := #[.pointer (some ⟨p, 0, none⟩), .func (.func 174) #[] (outV b), .pointer (some ⟨W.heap.size, 0, none⟩), undef, .int .i64 (x.1.sec : Int), .slice (some ⟨x.1.g, 0, none⟩) x.2 x.1.cap, undef, undef, .func (.func 174) #[] (outV b), .int .i64 (x.1.sec : Int), .slice (some ⟨x.1.g, 0, none⟩) x.2 x.1.cap, undef, undef, undef, undef, undef, undef, undef, undef, undef, undef, undef, undef, undef, undef, undef, undef, undef, undef, undef, undef, undef, undef, undef, undef, undef, undef, undef, undef, undef, undef, undef, undef, undef, undef, undef, undef], defers := [] }) ?assign ?body ?done
  case hI =>
    rintro pre A B ⟨ho, hK⟩ hg
    exact ⟨ho.kept hg (.inr (by simp [Value.ownBlock])), hK.grown hg (fun k e => by cases e)⟩
  case hIo =>
    rintro pre A l o o' ⟨ho, hK⟩ hl hA hc
    exact ⟨ownsRow_putObj ho o' hA hc, hK.grown (grownBy_putObj' A l o') (fun k e => .inr (by injection e with e; omega))⟩
  case assign =>
    intro l x A K hK
    gi_wp2
    exact hK
  case body =>
    rintro l' pre x A ⟨ho, hK⟩ hZ
    obtain ⟨kx, hkx, hxe⟩ := List.mem_mapIdx.1 hZ.mem
    have hxm : x.1 ∈ ts := by rw [← hxe]; exact List.getElem_mem hkx
    have hm64 : x.2 ≤ 64 := by rw [← hxe]; exact cutN_le _ _ _ _
    obtain ⟨hs, hb64⟩ := HR.out.at hxm
    clear hxe hkx
    obtain ⟨x, m⟩ := x
    dsimp only at hs hb64 hxm hm64 ⊢
    have hcx : A.cell? ⟨W.heap.size, 0, none⟩ = some (.pointer (some ⟨p, 0, none⟩)) := Boxed.cell (t := 89) (hK.heap HX.out (by omega))
    have hc0 := HD.out.other hK
    have CS := Lib.hid (sector_any bd img.length cd x.sec hs hL (caps HD.out).1 A)
    have hrow := hK.own (HD.out.wr x hxm) (fun k e => by cases e; exact (HD.out.new x hxm).2.1)
    have HSt := Lib.hid (out_step img pre (x, m))
    have HO := Lib.hid ho
    have HKA := Lib.hid hK
    have HRow := Lib.hid (Bytes.of_own hrow)
    have HB64 := Lib.hid hb64
    clear ho hK hrow hb64
    gi_wp2_with fail
    refine ⟨trivial, (CallsIn.inRound l' (callsIn_wide.2 CS.out)).mono ?_⟩
    rintro e w3 ⟨rfl, rfl⟩
    gi_wp2_with (refine wpListIn_copy_onto rfl (.tmp 16) (.tmp 17) _ _ rfl 5 Tryz.underlying47 sizeB1 bd (64 * x.sec) 64 _ rfl (some ⟨x.g, 0, none⟩) m x.cap rfl 0 img.length cd 5 _ HO.out (u8s (x.b.take m)) ?d1 ?d2 (u8s_one _) ?d3 ?_)
    case d1 => rw [u8s_length, List.length_take, HB64.out]
    case d2 => rw [u8s_length, List.length_take, HB64.out]; omega
    case d3 =>
      intro _
      obtain ⟨ad, e, hc⟩ := row_src HRow.out HB64.out
      refine ⟨ad, e, fun j v hj => hc j v ?_⟩
      have h1 : j < m := by
        have := (List.getElem?_eq_some_iff.1 hj).1
        rw [u8s_length, List.length_take] at this
        omega
      unfold u8s at hj ⊢
      rw [List.getElem?_map, List.getElem?_take_of_lt h1] at hj
      rw [List.getElem?_map]
      exact hj
    intro w4 o4 g4 z4
    gi_wp2_with fail
    have h4 := o4.out
    rw [HSt.out] at h4
    refine ⟨KeepsOthers.of_grownBy g4.out (fun j o e hj => ?_), fun k h1 h2 => g4.out.block k (Nat.lt_of_lt_of_le h1 HKA.out.size) (fun e => h2 (Option.some.inj e)), h4, HKA.out.grown g4.out (fun k e => .inl (by injection e with e; exact e.symm))⟩
    injection e with e
    subst e
    rcases HO.out.2 with ⟨h5, _⟩ | ⟨g, _, _, h5, _, h6, _⟩
    · cases h5
    · injection h5 with h5 _ _
      injection h5 with h5
      injection h5 with h5 _
      rw [h5, h6] at hj
      injection hj with hj
      subst hj
      rfl
  case done =>
    rintro D XS w1 hD rfl ⟨ho, hK⟩ hdf
    rename_i Kc hKc
    refine hKc _ _ (wpIn_wide.2 ?_)
    dsimp only
    have hdl := outC_length HR.out (cutN kv torn cut) (cutN_le _ _ _)
    have HBk := Lib.hid (outC_back HR.out (cutN kv torn cut) (cutN_le _ _ _))
    have hD1 := HD.out.redur hdl ho hK
    have HKW := Lib.hid (HK0.out.trans (hK.mono (G := F) (fun k _ e => by subst e; exact HD.out.fp.2.1)) (fun k hk => .inl hk))
    have HX1 := Lib.hid (show Boxed w1 W.heap.size 89 (.pointer (some ⟨p, 0, none⟩)) from hK.heap HX.out (by omega))
    have hat : ∀ t ∈ ts, 64 * t.sec + 64 ≤ img.length := fun t ht => (HR.out.at ht).1
    have hbnl : bn < W0.heap.size := (HD.out.now.lt bn rfl).2
    have hbnX : bn ≠ W.heap.size := fun e => HX.out.not_row (by decide) HD.out.now (by rw [← e]; rfl)
    have hpX : p ≠ W.heap.size := by have := HFl.out p HD.out.fp.1; omega
    have HDz := Lib.hid hD
    have hcd := (caps hD1).1
    have hcn := (caps hD1).2
    rw [← hdl] at hat hL
    obtain ⟨now0, hnow0⟩ : ∃ now0, flushD img (ts.map Wr.pair) = now0 := ⟨_, rfl⟩
    obtain ⟨d, hd⟩ : ∃ d, outC img (cutsW (cutN kv torn cut) ts) = d := ⟨_, rfl⟩
    rw [hnow0, hd] at hD1 HBk
    rw [hd] at hdl hat hL hcd hcn
    have HDE := Lib.hid hd
    have HAt := Lib.hid hat
    have HD1 := Lib.hid hD1
    have HDF := Lib.hid hdf
    have HF2 := Lib.hid HD1.out.fp
    obtain ⟨_, _, c2, _, _, _⟩ := hD1.facts
    have cX := HX1.out.cell
    obtain ⟨A, c, hvp, _, _⟩ := vp_form hD1
    subst hvp
    clear HR HBX hbd HD HK0 ho hK hdl hD hD1 hat hdf hnow0 hd HX hbdl
    go_wp2_with fail
    go_loopw [24] (fun i wr => ∃ k : Nat, i = .int .i64 k ∧ k ≤ ts.length ∧ Hid (DevB wr F p d (backD d now0 ((ts.take k).map Wr.pair)) ts bd cd bn cn (.slice A ts.length c) st lf) ∧ Hid (Kept F W wr) ∧ Hid (Boxed wr W.heap.size 89 (.pointer (some ⟨p, 0, none⟩))) ∧ Hid (wr.heap[D]? = some (.deferred (some []))) ∧ Hid (W0.heap.size ≤ wr.heap.size)) (fun i _ => ts.length - (intOf i).toNat)
    case atStart => exact ⟨0, rfl, Nat.zero_le _, HD1, HKW, HX1, HDF, Lib.hid (by have := HKW.out.size; have := HX1.out.lt; have := HZ0.out; omega)⟩
    case round =>
      obtain ⟨k, rfl, hk, hDk, hKk, hXk, hFk, hSk⟩ := hrel
      have cX := hXk.out.cell
      by_cases hlt : k < ts.length
      · obtain ⟨gp, cp', hvp, _, hgl⟩ := hDk.out.pend.form (by omega)
        injection hvp with e1 _ e3
        subst e1 e3
        have hat : ∀ j u, (ts[k].cells)[j]? = some u → j < 2 → wr.cell? ⟨gp, k * 2 + j, none⟩ = some u := fun j u hu hj => by
          have h1 := hDk.out.pend.cells (g := gp) rfl (k * 2 + j) u (by rw [wrs_at ts k j hlt hj]; exact hu)
          rwa [add_none, Nat.zero_add] at h1
        have f0 := hat 0 _ rfl (by omega)
        have f1 := hat 1 _ rfl (by omega)
        rw [Nat.add_zero] at f0
        have hs := HAt.out _ (List.getElem_mem hlt)
        have HSn := Lib.hid (show backD d now0 ((ts.take (k + 1)).map Wr.pair) = putS (backD d now0 ((ts.take k).map Wr.pair)) ((ts[k]).sec, sect d (ts[k]).sec) by
          rw [List.take_succ_eq_append_getElem hlt, List.map_append]
          exact back_snoc _ _ _ _)
        clear hat
        generalize ts[k] = t at *
        generalize backD d now0 ((ts.take k).map Wr.pair) = nowk at *
        have ba := ((Below.refl wr.heap.size wr).alloc (Nat.le_refl _) (.cells #[.int .i64 (t.sec : Int), sl t.g 64 t.cap] 242)).drew
        have HDa := Lib.hid (hDk.out.below ba)
        have HKa := Lib.hid (hKk.out.trans (Kept.of_below (F := F) ba) (fun k hk => .inl hk))
        have HXa := Lib.hid (show Boxed (wr.alloc (.cells #[.int .i64 (t.sec : Int), sl t.g 64 t.cap] 242)).drew W.heap.size 89 (.pointer (some ⟨p, 0, none⟩)) from (hXk.out.alloc _))
        have HFa := Lib.hid (show (wr.alloc (.cells #[.int .i64 (t.sec : Int), sl t.g 64 t.cap] 242)).drew.heap[D]? = some (.deferred (some [])) from (Below.heap_alloc _ _ _ (Array.getElem?_eq_some_iff.1 hFk.out).1).trans hFk.out)
        have hTa : (wr.alloc (.cells #[.int .i64 (t.sec : Int), sl t.g 64 t.cap] 242)).drew.cell? ⟨wr.heap.size, 0, none⟩ = some (.int .i64 (t.sec : Int)) := by
          rw [show (wr.alloc (.cells #[.int .i64 (t.sec : Int), sl t.g 64 t.cap] 242)).drew.cell? ⟨wr.heap.size, 0, none⟩ = (wr.alloc (.cells #[.int .i64 (t.sec : Int), sl t.g 64 t.cap] 242)).cell? ⟨wr.heap.size, 0, none⟩ from rfl, cell_of_row _ _ 0 _ _ _ (heap_alloc_new wr _)]
          rfl
        obtain ⟨n0, n1, _, _, _, _⟩ := HDa.out.facts
        have nX := HXa.out.cell
        have HS0 := Lib.hid (And.intro nX (And.intro n1 (And.intro n0 hTa)))
        have CS1 := Lib.hid (fun W => sector_any bn d.length cn t.sec hs hL hcn W)
        have CS2 := Lib.hid (fun W => sector_any bd d.length cd t.sec hs hL hcd W)
        have hXlt : W.heap.size < wr.heap.size := hXk.out.lt
        have HSrc := Lib.hid (row_src (sect_bytes HDa.out.dur hs) (sect_len d t.sec hs))
        have HSl := Lib.hid (sect_len d t.sec hs)
        have hsn : 64 * t.sec + 64 ≤ d.length := hs
        have HTa := Lib.hid hTa
        have hTn : wr.heap.size ≠ bn := fun e => by have := hDk.out.lt _ hDk.out.fp.2.2.1; omega
        clear ba nX n0 n1 hTa c2
        go_wp2_with fail
        clear cX f0 f1
        go_region_held3 (fun w' => w'.cell? ⟨W.heap.size, 0, none⟩ = some (.pointer (some ⟨p, 0, none⟩)) ∧ w'.cell? ⟨p, 1, none⟩ = some (sl bn d.length cn) ∧ w'.cell? ⟨p, 0, none⟩ = some (sl bd d.length cd) ∧ w'.cell? ⟨wr.heap.size, 0, none⟩ = some (.int .i64 (t.sec : Int)))
          (first | assumption | exact HS0.out | exact HS4.out)
          (first
            | (go_at_call 156; (first | (with_reducible refine (CS1.out _).mono ?_) | (with_reducible refine (CS2.out _).mono ?_)); rintro en w2 ⟨rfl, rfl⟩)
            | (refine step_copy_onto rfl (.tmp 34) (.tmp 41) _ _ rfl 5 Tryz.underlying47 sizeB1 bn (64 * t.sec) 64 _ rfl (some ⟨bd, 64 * t.sec, none⟩) 64 _ rfl 0 d.length cn 5 _ HDa.out.now (u8s (sect d t.sec)) ?_ ?_ (u8s_one _) (fun _ => HSrc.out) ?_; (rw [u8s_length, HSl.out]; rfl); (rw [u8s_length, HSl.out]; exact hsn); intro w4 o4 g4 z4; have HS4 := Lib.hid (HDa.out.still HXa.out hbnX HTa.out hTn g4.out)))
        all_goals
          have h4 := o4.out
          rw [splice_put _ _ _ HSl.out, ← HSn.out] at h4
          obtain ⟨D4', K4'⟩ := HDa.out.renow h4 g4.out
          have D4 := Lib.hid D4'
          have K4 := Lib.hid (HKa.out.trans K4' (fun k hk => .inl hk))
          have X4 := Lib.hid (HXa.out.kept g4.out (by intro e; injection e with e; exact hbnX e.symm))
          have F4 := Lib.hid ((g4.out.block D (Array.getElem?_eq_some_iff.1 HFa.out).1 (by intro e; injection e with e; have := HDz.out; omega)).trans HFa.out)
          have S4 := Lib.hid (show W0.heap.size ≤ w4.heap.size from by have h1 := z4.out; have h2 := hSk.out; simp at h1; omega)
          clear h4 D4' K4' o4 g4 z4 HS4 HS0 CS1 CS2 HSrc HSl HDa HKa HXa HFa HTa
          go_wp2_with fail
          go_roundw
          case rel => exact ⟨k + 1, by go_num, by omega, D4, K4, X4, F4, S4⟩
          case measure => simp [intOf]; omega
      · have hke : k = ts.length := by omega
        subst hke
        have hDe := hDk.out
        rw [List.take_length, HBk.out] at hDe
        obtain ⟨_, _, c2, _, _, hfz⟩ := hDe.facts
        have hpl2 := hDe.plt
        have HDe := Lib.hid hDe.clear
        clear hDe
        go_wp2_with fail
        have hfp := HFl.out p HF2.out.1
        have hz := HZ0.out
        have hDz := HDz.out
        have hFd : (wr.setCell ⟨p, 2, none⟩ (.slice none 0 0)).heap[D]? = some (.deferred (some [])) := (Below.heap_setCell _ _ _ _ (show D ≠ p by omega)).trans hFk.out
        refine ⟨by simp, .inl ⟨_, _, rfl, run_takeDeferred hFd, ?_⟩⟩
        have hkp : Kept (fun k => k = D) (wr.setCell ⟨p, 2, none⟩ (.slice none 0 0)) ((wr.setCell ⟨p, 2, none⟩ (.slice none 0 0)).putObj D (.deferred none)) := (Kept.refl _ _).grown (grownBy_putObj' _ _ _) (fun k e => .inl (by injection e with e; exact e.symm))
        refine ⟨_, results_none rfl _ _ _, rfl, ?_, ?_⟩
        · rw [HDE.out]
          exact HDe.out.keep hkp (fun k hf e => by have := HFl.out k hf; omega)
        · exact (hKk.out.setCell (.inl HF2.out.1) _).trans hkp (fun k e => .inr (by omega))
end Go.Proofs.YtiafamacjpgjoaaGreatDoor

/- All that a layer above wants of the package's devices, those too that may go down. -/
namespace Go.Proofs.YtiafamacjpgjoaaGreatDoor
open Go.RowKit Tide

section
variable {W : World} {F : Nat → Prop} {p : Nat} {img now : List UInt8} {ts : List Wr} {bd cd bn cn : Nat} {vp : Value} {st : Bool} {lf : Nat}
theorem flush_some (h : DevB W F p img (flushD img (ts.map Wr.pair)) ts bd cd bn cn vp st lf) (hp : st = true → lf ≠ 0) (hlf : lf ≤ 9223372036854775807) (h0 : st = false → lf = 0) (hr : RightD img ts) (hL : img.length ≤ 30000) (hn : ts.length ≤ 1000) :
    Calls Tryz.prog 165 #[.pointer (some ⟨p, 0, none⟩)] W fun e w' => e = .returned .nilIface ∧ DevB w' F p (flushD img (ts.map Wr.pair)) (flushD img (ts.map Wr.pair)) [] bd cd bn cn (.slice none 0 0) st (lf - 1) ∧ Kept F W w' := by
  have CP := Lib.hid (power_any h hp hlf h0)
  have HR := Lib.hid hr
  clear h hr hp hlf h0
  go_enter Tryz.func165, Tryz.ntmps165
  go_wp2_with fail
  refine CP.out.mono ?_
  rintro en W1 ⟨rfl, hD1, hK1⟩
  have CO := Lib.hid (outcome_any p 18446744073709551615 (-1) 0 W1)
  have HD := Lib.hid hD1
  have K1 := Lib.hid hK1
  clear hD1 hK1 CP
  go_wp2_with fail
  refine CO.out.mono ?_
  rintro en w2 ⟨rfl, hb, hb2, hz⟩
  have hbd := (HD.out.dur.lt bd rfl).2
  have CS := settle_any (HD.out.below hb2) HR.out hL hn 18446744073709551615 (-1) 0 W1.heap.size hb ⟨by omega, by omega, by omega, by omega⟩
  have hall : outC img (cutsW (cutN 18446744073709551615 (-1) 0) ts) = flushD img (ts.map Wr.pair) := by
    have e : cutN 18446744073709551615 (-1) 0 = fun _ => 64 := by
      funext k
      unfold cutN
      rw [if_neg (by omega), if_pos (bit_all _ (Nat.mod_lt _ (by omega)))]
    rw [e]
    have := outC_all (img.length / 64) ts 0 img HR.out.2.2 HR.out.imgs
    exact this
  rw [hall] at CS
  have CS2 := Lib.hid CS
  have HB2 := Lib.hid (Kept.of_below (F := F) hb2)
  clear hb hb2 hz hbd CS hall
  go_wp2_with fail
  refine CS2.out.mono ?_
  rintro en w3 ⟨rfl, hd, hk⟩
  have H3 := Lib.hid hd
  have K3 := Lib.hid hk
  clear hd hk CS2
  go_wp2_with fail
  go_ret
  exact ⟨rfl, H3.out, K1.out.trans (HB2.out.trans K3.out (fun k hk => .inl hk)) (fun k hk => .inl hk)⟩
theorem flush_down {x : Nat → Addr} (hE : E3 x W) (h : DevB W F p img now ts bd cd bn cn vp true 0) :
    Calls Tryz.prog 165 #[.pointer (some ⟨p, 0, none⟩)] W fun e w' => e = .returned (errAt (x 2)) ∧ W = w' := by
  have CP := Lib.hid (power_none hE h)
  clear h hE
  go_enter Tryz.func165, Tryz.ntmps165
  go_wp2_with fail
  refine CP.out.mono ?_
  rintro en w1 ⟨rfl, rfl⟩
  go_wp2_with fail
  go_ret
  exact ⟨rfl, rfl⟩
end

def less (s : Option Nat) : Option Nat := s.map (· - 1)
structure DvSpec (x : Nat → Addr) (D : DvP) : Prop where
  tight : ∀ W F p d, D W F p d → ∃ F', D W F' p d ∧ (∀ k, F' k → F k) ∧ ∀ k, F' k → ∃ o, W.heap[k]? = some o ∧ o.isCells = true
  lt : ∀ W F p d, D W F p d → ∀ k, F k → k < W.heap.size
  keep : ∀ W W' F G p d, D W F p d → Kept G W W' → (∀ k, F k → ¬ G k) → D W' F p d
  right : ∀ W F p d, D W F p d → d.img.length = 64 * (d.img.length / 64) ∧ 64 ≤ d.img.length ∧ d.img.length ≤ 30000 ∧ FitsD (d.img.length / 64) d.pend ∧ d.pend.length ≤ 1000
  new : ∀ (W : World) (n : Nat), 1 ≤ n → n ≤ 400 → Calls Tryz.prog 41 #[.int .i64 (n : Nat)] W fun e w' => ∃ p F, e = .returned (.tuple #[.pointer (some ⟨p, 0, none⟩), .nilIface]) ∧ D w' F p ⟨noughts (64 * n), [], none⟩ ∧ (∀ k, F k → W.heap.size ≤ k) ∧ Below W.heap.size W w'
  len : ∀ W F p d, D W F p d → Calls Tryz.prog 109 #[.pointer (some ⟨p, 0, none⟩)] W fun e w' => e = .returned (.int .i64 ((d.img.length / 64 : Nat))) ∧ W = w'
  read : ∀ W F p d (i : Nat), D W F p d → i < d.img.length / 64 → Calls Tryz.prog 142 #[.pointer (some ⟨p, 0, none⟩), .int .i64 (i : Nat)] W fun e w' => ∃ v, e = .returned (.tuple #[v, .nilIface]) ∧ w'.ownsRow W.heap.size 5 1 v 64 (u8s (sect (flushD d.img d.pend) i)) ∧ Below W.heap.size W w'
  write : ∀ (W : World) F p d (i : Nat) v B b, D W F p d → d.stop ≠ some 0 → d.pend.length < 1000 → i < d.img.length / 64 → Bytes W B v b → B ≤ W.heap.size → (∀ k, v.ownBlock = some k → ¬ F k) → b.length = 64 →
    Calls Tryz.prog 164 #[.pointer (some ⟨p, 0, none⟩), .int .i64 (i : Nat), v] W fun e w' => e = .returned .nilIface ∧ ∃ F', D w' F' p ⟨d.img, d.pend ++ [(i, b)], less d.stop⟩ ∧ (∀ k, F' k → F k ∨ W.heap.size ≤ k) ∧ Kept F W w'
  write_down : ∀ (W : World) F p d (i : Nat) v B b, E3 x W → D W F p d → d.stop = some 0 → i < d.img.length / 64 → Bytes W B v b → b.length = 64 →
    Calls Tryz.prog 164 #[.pointer (some ⟨p, 0, none⟩), .int .i64 (i : Nat), v] W fun e w' => e = .returned (errAt (x 2)) ∧ W = w'
  flush : ∀ W F p d, D W F p d → d.stop ≠ some 0 → Calls Tryz.prog 165 #[.pointer (some ⟨p, 0, none⟩)] W fun e w' => e = .returned .nilIface ∧ D w' F p ⟨flushD d.img d.pend, [], less d.stop⟩ ∧ Kept F W w'
  flush_down : ∀ W F p d, E3 x W → D W F p d → d.stop = some 0 → Calls Tryz.prog 165 #[.pointer (some ⟨p, 0, none⟩)] W fun e w' => e = .returned (errAt (x 2)) ∧ W = w'

theorem pow_of {s : Option Nat} (h : s ≠ some 0) : (s.isSome = true → s.getD 0 ≠ 0) ∧ (s.isSome = false → s.getD 0 = 0) ∧ (less s).isSome = s.isSome ∧ (less s).getD 0 = s.getD 0 - 1 := by
  cases s with
  | none => exact ⟨fun h => absurd h (by decide), fun _ => rfl, rfl, rfl⟩
  | some k => exact ⟨fun _ e => h (congrArg some e), fun h => absurd h (by simp), rfl, rfl⟩
theorem own_cells {W : World} {base : Nat} {e : TypeId} {size n k : Nat} {v : Value} {xs : List Value} (h : W.ownsRow base e size v n xs) (hv : v.ownBlock = some k) : ∃ o, W.heap[k]? = some o ∧ o.isCells = true := by
  rcases h.2 with ⟨rfl, _⟩ | ⟨g, cap, cur, rfl, _, hg, _⟩
  · cases hv
  · have : g = k := by simpa [Value.ownBlock] using hv
    subst this
    exact ⟨_, hg, rfl⟩
theorem DevB.tight {W : World} {F : Nat → Prop} {p : Nat} {img now : List UInt8} {ts : List Wr} {bd cd bn cn : Nat} {vp : Value} {st : Bool} {lf : Nat} (h : DevB W F p img now ts bd cd bn cn vp st lf) : ∃ F', DevB W F' p img now ts bd cd bn cn vp st lf ∧ (∀ k, F' k → F k) ∧ ∀ k, F' k → ∃ o, W.heap[k]? = some o ∧ o.isCells = true := by
  have hsub : ∀ k, (k = p ∨ k = bd ∨ k = bn ∨ vp.ownBlock = some k ∨ ∃ t ∈ ts, t.g = k) → F k := by
    rintro k (rfl | rfl | rfl | e | ⟨t, ht, rfl⟩)
    · exact h.fp.1
    · exact h.fp.2.1
    · exact h.fp.2.2.1
    · exact h.fp.2.2.2.1 k e
    · exact h.fp.2.2.2.2 t ht
  refine ⟨fun k => k = p ∨ k = bd ∨ k = bn ∨ vp.ownBlock = some k ∨ ∃ t ∈ ts, t.g = k, { h with fp := ⟨.inl rfl, .inr (.inl rfl), .inr (.inr (.inl rfl)), (fun k e => .inr (.inr (.inr (.inl e)))), (fun t ht => .inr (.inr (.inr (.inr ⟨t, ht, rfl⟩))))⟩, lt := fun k hk => h.lt k (hsub k hk) }, hsub, ?_⟩
  rintro k (rfl | rfl | rfl | e | ⟨t, ht, rfl⟩)
  · exact ⟨_, h.block, rfl⟩
  · exact own_cells h.dur rfl
  · exact own_cells h.now rfl
  · exact own_cells h.pend e
  · exact own_cells (h.wr t ht) rfl
theorem dvSpec (x : Nat → Addr) : DvSpec x DevS where
  tight := fun W F p d ⟨ts, bd, cd, bn, cn, vp, h1, h2, h3, h4, h5, h⟩ => by
    obtain ⟨F', h6, h7, h8⟩ := h.tight
    exact ⟨F', ⟨ts, bd, cd, bn, cn, vp, h1, h2, h3, h4, h5, h6⟩, h7, h8⟩
  lt := fun W F p d ⟨_, _, _, _, _, _, _, _, _, _, _, h⟩ => h.lt
  keep := fun W W' F G p d ⟨ts, bd, cd, bn, cn, vp, h1, h2, h3, h4, h5, h⟩ hk hG => ⟨ts, bd, cd, bn, cn, vp, h1, h2, h3, h4, h5, h.keep hk hG⟩
  right := fun W F p d ⟨ts, _, _, _, _, _, h1, h2, h3, h4, _, _⟩ => ⟨h2.imgs, h2.1, h3, by rw [h1]; exact h2.2.2, by rw [h1, List.length_map]; exact h4⟩
  new := fun W n h1 h2 => new_any n h1 h2 W
  len := fun W F p d ⟨_, _, _, _, _, _, _, _, h3, _, _, h⟩ => len_any h h3
  read := fun W F p d i ⟨_, _, _, _, _, _, _, _, h3, _, _, h⟩ hi => read_any h h3 i hi
  write := fun W F p d i v B b ⟨ts, bd, cd, bn, cn, vp, h1, h2, h3, h4, h5, h⟩ hs hn hi hv hB hap hb => by
    obtain ⟨e1, e2, e3, e4⟩ := pow_of hs
    rw [h1, List.length_map] at hn
    refine (write_any h e1 h5 e2 h3 h4 i hi hv hB hap hb).mono ?_
    rintro e w' ⟨rfl, F', ts', vp', hd, hts, hl, hF, hk⟩
    refine ⟨rfl, F', ⟨ts', bd, cd, bn, cn, vp', ?_, ⟨h2.1, h2.2.1, ?_⟩, h3, by omega, ?_, ?_⟩, hF, hk⟩
    · rw [hts, h1]
    · rw [hts]
      intro y hy
      rcases List.mem_append.1 hy with hy | hy
      · exact h2.2.2 y hy
      · simp only [List.mem_singleton] at hy
        subst hy
        exact ⟨hi, hb⟩
    · show (less d.stop).getD 0 ≤ _
      rw [e4]; omega
    · show DevB w' F' p d.img (flushD d.img (d.pend ++ [(i, b)])) ts' bd cd bn cn vp' (less d.stop).isSome ((less d.stop).getD 0)
      rw [e3, e4]
      rw [flush_snoc]
      exact hd
  write_down := fun W F p d i v B b hE ⟨ts, bd, cd, bn, cn, vp, h1, h2, h3, h4, h5, h⟩ hs hi hv hb => by
    rw [hs] at h
    exact write_down hE h h3 i hi v hv hb
  flush := fun W F p d ⟨ts, bd, cd, bn, cn, vp, h1, h2, h3, h4, h5, h⟩ hs => by
    obtain ⟨e1, e2, e3, e4⟩ := pow_of hs
    rw [h1] at h ⊢
    refine (flush_some h e1 h5 e2 h2 h3 h4).mono ?_
    rintro e w' ⟨rfl, hd, hk⟩
    have hl : (flushD d.img (ts.map Wr.pair)).length = d.img.length := (flushD_len _ _ h2.2.2 d.img h2.imgs).trans h2.imgs.symm
    refine ⟨rfl, ⟨[], bd, cd, bn, cn, .slice none 0 0, rfl, ⟨?_, ?_, fun x hx => by cases hx⟩, ?_, Nat.zero_le _, ?_, ?_⟩, hk⟩
    · show 64 ≤ (flushD d.img (ts.map Wr.pair)).length
      rw [hl]; exact h2.1
    · show (flushD d.img (ts.map Wr.pair)).length % 64 = 0
      rw [hl]; exact h2.2.1
    · show (flushD d.img (ts.map Wr.pair)).length ≤ _
      rw [hl]; exact h3
    · show (less d.stop).getD 0 ≤ _
      rw [e4]; omega
    · show DevB w' F p (flushD d.img (ts.map Wr.pair)) (flushD d.img (ts.map Wr.pair)) [] bd cd bn cn _ (less d.stop).isSome ((less d.stop).getD 0)
      rw [e3, e4]
      exact hd
  flush_down := fun W F p d hE ⟨ts, bd, cd, bn, cn, vp, h1, h2, h3, h4, h5, h⟩ hs => by
    rw [hs] at h
    exact flush_down hE h
end Go.Proofs.YtiafamacjpgjoaaGreatDoor
