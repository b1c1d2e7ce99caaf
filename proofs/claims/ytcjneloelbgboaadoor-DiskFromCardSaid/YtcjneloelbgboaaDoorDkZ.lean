/- What a device makes of an outcome: the durable bytes, and what is read. -/
import Derived.Test.YtcjneloelbgboaaDoorDkY
import Derived.Test.YtcjneloelbgboaaDoorDkW
import Derived.Deep.RegionHeld3
import Derived.Shelf.Abstract
namespace Go.Proofs.YtcjneloelbgboaaDoor
open Go.RowKit Go.Shelf Tide
attribute [local go_sem] Oper.semAt_some

/-- Between two rounds: so far the durable bytes are those; all else is as it was. -/
def OutI (all : Bool) (img : List UInt8) (bd cd : Nat) (w : World) (pre : List Wr) (W : World) : Prop := W.ownsRow 0 5 1 (sl bd img.length cd) img.length (u8s (outD all img (pre.map Wr.pair))) ∧ Kept (fun k => k = bd) w W

theorem out_step {all : Bool} {m : Nat} (hm : (m = 64 ∧ all = true) ∨ (m = 0 ∧ all = false)) (img : List UInt8) (pre : List Wr) (x : Wr) (hb : x.b.length = 64) : splice (u8s (outD all img (pre.map Wr.pair))) (64 * x.sec) (u8s (x.b.take m)) = u8s (outD all img ((pre ++ [x]).map Wr.pair)) := by
  rcases hm with ⟨rfl, rfl⟩ | ⟨rfl, rfl⟩
  · rw [List.take_of_length_le (by omega), splice_put _ _ _ hb, List.map_append]
    show _ = u8s (flushD img (pre.map Wr.pair ++ [x.pair]))
    rw [flush_snoc]
    rfl
  · exact splice_nil _ _
theorem DevB.other {W A : World} {F : Nat → Prop} {p : Nat} {img now : List UInt8} {ts : List Wr} {bd cd bn cn : Nat} {vp : Value} (h : DevB W F p img now ts bd cd bn cn vp) (hK : Kept (fun k => k = bd) W A) : A.cell? ⟨p, 0, none⟩ = some (sl bd img.length cd) := by
  rw [cell_of_row _ _ 0 _ _ _ (hK.heap h.block h.ne.1)]; rfl
theorem back_snoc (d now : List UInt8) (pre : List (Nat × List UInt8)) (x : Nat × List UInt8) : backD d now (pre ++ [x]) = putS (backD d now pre) (x.1, sect d x.1) := by
  unfold backD
  rw [List.map_append]
  exact flush_snoc _ _ _
theorem out_len {all : Bool} {img : List UInt8} {ts : List Wr} (h : RightD img ts) : (outD all img (ts.map Wr.pair)).length = img.length := by
  cases all with
  | true => exact (flushD_len _ _ h.2.2 img h.imgs).trans h.imgs.symm
  | false => rfl
theorem DevB.still {W W' : World} {F : Nat → Prop} {p : Nat} {img now : List UInt8} {ts : List Wr} {bd cd bn cn : Nat} {vp : Value} (h : DevB W F p img now ts bd cd bn cn vp) {X T : Nat} {t : TypeId} {v u : Value} (hx : Boxed W X t v) (hX : bn ≠ X) (hT : W.cell? ⟨T, 0, none⟩ = some u) (hTn : T ≠ bn) (hg : W.grownBy W' (some bn)) :
    W'.cell? ⟨X, 0, none⟩ = some v ∧ W'.cell? ⟨p, 1, none⟩ = some (sl bn img.length cn) ∧ W'.cell? ⟨p, 0, none⟩ = some (sl bd img.length cd) ∧ W'.cell? ⟨T, 0, none⟩ = some u := by
  have hK : Kept (fun k => k = bn) W W' := (Kept.refl _ _).grown hg (fun k e => .inl (by injection e with e; exact e.symm))
  obtain ⟨c0, c1, _⟩ := h.facts
  refine ⟨(hK.cell (p := ⟨X, 0, none⟩) hx.lt (fun e => hX e.symm)).trans hx.cell, (hK.cell (p := ⟨p, 1, none⟩) h.plt h.ne.2.1).trans c1, (hK.cell (p := ⟨p, 0, none⟩) h.plt h.ne.2.1).trans c0, (hK.cell (p := ⟨T, 0, none⟩) (World.block_lt_of_cell? _ _ hT) hTn).trans hT⟩
theorem Zt.mem {ts pre : List Wr} {x : Wr} (h : Zt ts pre x) : x ∈ ts := by
  obtain ⟨h1, _, h3⟩ := h
  rw [h3]
  exact List.getElem_mem h1

set_option maxRecDepth 100000 in
set_option maxHeartbeats 4000000 in
theorem settle_any {W : World} {F : Nat → Prop} {p : Nat} {img : List UInt8} {ts : List Wr} {bd cd bn cn : Nat} {vp : Value} (h : DevB W F p img (flushD img (ts.map Wr.pair)) ts bd cd bn cn vp) (hr : RightD img ts) (hL : img.length ≤ 3000) (hn : ts.length ≤ 100)
    (all : Bool) (kv : Int) (m : Nat) (hkm : (kv = 18446744073709551615 ∧ m = 64 ∧ all = true) ∨ (kv = 0 ∧ m = 0 ∧ all = false)) (b : Nat) (hb : Boxes W b p kv) (hbd : b ≠ bd ∧ b + 1 ≠ bd ∧ b + 2 ≠ bd ∧ b + 3 ≠ bd) :
    Calls Tryd.prog 25 #[.pointer (some ⟨p, 0, none⟩), .func (.func 29) #[] (outV b)] W fun e w' => e = .returned (.tuple #[]) ∧ DevB w' F p (outD all img (ts.map Wr.pair)) (outD all img (ts.map Wr.pair)) [] bd cd bn cn (.slice none 0 0) ∧ Kept F W w' := by
  have HR := Lib.hid hr
  have HKM := Lib.hid hkm
  have ba := (Below.refl W.heap.size W).alloc (Nat.le_refl _) (.cells #[.pointer (some ⟨p, 0, none⟩)] 25)
  have HD := Lib.hid (h.below ba)
  have HBX := Lib.hid (show Boxes (W.alloc (.cells #[.pointer (some ⟨p, 0, none⟩)] 25)) b p kv from ⟨hb.dev.alloc _, hb.kept.alloc _, hb.torn.alloc _, hb.cut.alloc _⟩)
  have hx := Boxed.new W 25 (.pointer (some ⟨p, 0, none⟩))
  have hpl := h.plt
  have HK0 := Lib.hid (Kept.of_below (F := F) ba)
  have HFl := Lib.hid h.lt
  clear h hr hb hkm ba
  refine (callsIn_wide (n := 5)).1 ?_
  refine callsIn_of_wp_marks Tryd.func25 rfl trivial ?_ rfl
  simp only [Tryd.ntmps25, List.size_toArray, List.length_cons, List.length_nil, Nat.reduceAdd, Nat.reduceSub, Array.replicate_succ, Array.replicate_zero, List.push_toArray, List.append_toArray, List.nil_append, List.cons_append]
  gi_wp2_with fail
  generalize hW0 : W.alloc (.cells #[.pointer (some ⟨p, 0, none⟩)] 25) = W0 at *
  have hz0 : W0.heap.size = W.heap.size + 1 := by rw [← hW0, World.size_alloc]
  have hbdl : bd < W.heap.size := by
    have h1 := HD.out.dur.lt bd rfl
    have h2 : bd ≠ W.heap.size := fun e => hx.not_row (by decide) HD.out.dur (by rw [← e]; rfl)
    omega
  have HZ0 := Lib.hid hz0
  have HX := Lib.hid hx
  have hm : (m = 64 ∧ all = true) ∨ (m = 0 ∧ all = false) := HKM.out.imp (fun h => h.2) (fun h => h.2)
  have hkm2 : (kv = 18446744073709551615 ∧ m = 64) ∨ (kv = 0 ∧ m = 0) := HKM.out.imp (fun h => ⟨h.1, h.2.1⟩) (fun h => ⟨h.1, h.2.1⟩)
  have HM := Lib.hid hm
  have hm64 : m ≤ 64 := by omega
  clear hW0 hz0 hx hm
  refine range_z rfl (by omega) (gf := 29) (lb := outV b) rfl trivial (enters_of Tryd.func29 (by kernel_rfl) rfl)
    (fun _ => rfl) (outcome_z _ (by omega) kv m hkm2 b W0 HD.out hn HBX.out hbd) Kz_t (fun W l o h => Kz_b W l o h)
    (OutI all img bd cd W0) ?hI ?hIo ⟨by cases all <;> exact HD.out.dur, Kept.refl _ _⟩
    (fun (x : Wr) => { tmps := #[.pointer (some ⟨p, 0, none⟩), .func (.func 29) #[] (outV b), .pointer (some ⟨W.heap.size, 0, none⟩), undef, .int .i64 (x.sec : Int), .slice (some ⟨x.g, 0, none⟩) m x.cap, undef, undef, .func (.func 29) #[] (outV b), .int .i64 (x.sec : Int), .slice (some ⟨x.g, 0, none⟩) m x.cap, undef, undef, undef, undef, undef, undef, undef, undef, undef, undef, undef, undef, undef, undef, undef, undef, undef, undef, undef, undef, undef, undef, undef, undef, undef, undef, undef, undef, undef, undef, undef, undef, undef, undef, undef, undef], defers := [] }) ?assign ?body ?done
  case hI =>
    rintro pre A B ⟨ho, hK⟩ hg
    exact ⟨ho.kept hg (.inr (by simp [Value.ownBlock])), hK.grown hg (fun k e => by cases e)⟩
  case hIo =>
    rintro pre A l o o' ⟨ho, hK⟩ hl hA hc
    exact ⟨ownsRow_putObj ho o' hA hc, hK.grown (grownBy_putObj' A l o') (fun k e => .inr (by injection e with e; omega))⟩
  case assign =>
    intro l x A K hK
    gi_wp2
    exact hK
  case body =>
    rintro l' pre x A ⟨ho, hK⟩ hZ
    obtain ⟨hs, hb64⟩ := HR.out.at hZ.mem
    have hcx : A.cell? ⟨W.heap.size, 0, none⟩ = some (.pointer (some ⟨p, 0, none⟩)) := Boxed.cell (t := 25) (hK.heap HX.out (by omega))
    have hc0 := HD.out.other hK
    have CS := Lib.hid (sector_any bd img.length cd x.sec hs hL (caps HD.out).1 A)
    have hrow := hK.own (HD.out.wr x hZ.mem) (fun k e => by cases e; exact (HD.out.new x hZ.mem).2.1)
    have HSt := Lib.hid (out_step HM.out img pre x hb64)
    have HO := Lib.hid ho
    have HKA := Lib.hid hK
    have HRow := Lib.hid (Bytes.of_own hrow)
    have HB64 := Lib.hid hb64
    clear ho hK hrow hb64
    gi_wp2_with fail
    refine ⟨trivial, (CallsIn.inRound l' (callsIn_wide.2 CS.out)).mono ?_⟩
    rintro e w3 ⟨rfl, rfl⟩
    gi_wp2_with (refine wpListIn_copy_onto rfl (.tmp 16) (.tmp 17) _ _ rfl 5 Tryd.underlying22 sizeB1 bd (64 * x.sec) 64 _ rfl (some ⟨x.g, 0, none⟩) m x.cap rfl 0 img.length cd 5 _ HO.out (u8s (x.b.take m)) ?d1 ?d2 (u8s_one _) ?d3 ?_)
    case d1 => rw [u8s_length, List.length_take, HB64.out]
    case d2 => rw [u8s_length, List.length_take, HB64.out]; omega
    case d3 =>
      intro _
      obtain ⟨ad, e, hc⟩ := row_src HRow.out HB64.out
      refine ⟨ad, e, fun j v hj => hc j v ?_⟩
      have h1 : j < m := by
        have := (List.getElem?_eq_some_iff.1 hj).1
        rw [u8s_length, List.length_take] at this
        omega
      unfold u8s at hj ⊢
      rw [List.getElem?_map, List.getElem?_take_of_lt h1] at hj
      rw [List.getElem?_map]
      exact hj
    intro w4 o4 g4 z4
    gi_wp2_with fail
    have h4 := o4.out
    rw [HSt.out] at h4
    refine ⟨KeepsOthers.of_grownBy g4.out (fun j o e hj => ?_), fun k h1 h2 => g4.out.block k (Nat.lt_of_lt_of_le h1 HKA.out.size) (fun e => h2 (Option.some.inj e)), h4, HKA.out.grown g4.out (fun k e => .inl (by injection e with e; exact e.symm))⟩
    injection e with e
    subst e
    rcases HO.out.2 with ⟨h5, _⟩ | ⟨g, _, _, h5, _, h6, _⟩
    · cases h5
    · injection h5 with h5 _ _
      injection h5 with h5
      injection h5 with h5 _
      rw [h5, h6] at hj
      injection hj with hj
      subst hj
      rfl
  case done =>
    rintro D xs w1 hD rfl ⟨ho, hK⟩ hdf
    rename_i Kc hKc
    refine hKc _ _ (wpIn_wide.2 ?_)
    dsimp only
    have hdl := out_len (all := all) HR.out
    have HBk := Lib.hid (out_back all (img.length / 64) img (xs.map Wr.pair) HR.out.imgs HR.out.2.2)
    have hD1 := HD.out.redur hdl ho hK
    have HKW := Lib.hid (HK0.out.trans (hK.mono (G := F) (fun k _ e => by subst e; exact HD.out.fp.2.1)) (fun k hk => .inl hk))
    have HX1 := Lib.hid (show Boxed w1 W.heap.size 25 (.pointer (some ⟨p, 0, none⟩)) from hK.heap HX.out (by omega))
    have hat : ∀ t ∈ xs, 64 * t.sec + 64 ≤ img.length := fun t ht => (HR.out.at ht).1
    have hbnl : bn < W0.heap.size := (HD.out.now.lt bn rfl).2
    have hbnX : bn ≠ W.heap.size := fun e => HX.out.not_row (by decide) HD.out.now (by rw [← e]; rfl)
    have hpX : p ≠ W.heap.size := by have := HFl.out p HD.out.fp.1; omega
    have HDz := Lib.hid hD
    have hcd := (caps hD1).1
    have hcn := (caps hD1).2
    rw [← hdl] at hat hL
    obtain ⟨now0, hnow0⟩ : ∃ now0, flushD img (xs.map Wr.pair) = now0 := ⟨_, rfl⟩
    obtain ⟨d, hd⟩ : ∃ d, outD all img (xs.map Wr.pair) = d := ⟨_, rfl⟩
    rw [hnow0, hd] at hD1 HBk
    rw [hd] at hdl hat hL hcd hcn
    have HDE := Lib.hid hd
    have HAt := Lib.hid hat
    have HD1 := Lib.hid hD1
    have HDF := Lib.hid hdf
    have HF2 := Lib.hid HD1.out.fp
    obtain ⟨_, _, c2, _, _, _⟩ := hD1.facts
    have cX := HX1.out.cell
    obtain ⟨A, c, hvp, _, _⟩ := vp_form hD1
    subst hvp
    clear HR hkm2 HM hm64 HKM HBX hbd HD HK0 ho hK hdl hD hD1 hat hdf hnow0 hd HX hbdl
    go_wp2_with fail
    go_loopw [24] (fun i wr => ∃ k : Nat, i = .int .i64 k ∧ k ≤ xs.length ∧ Hid (DevB wr F p d (backD d now0 ((xs.take k).map Wr.pair)) xs bd cd bn cn (.slice A xs.length c)) ∧ Hid (Kept F W wr) ∧ Hid (Boxed wr W.heap.size 25 (.pointer (some ⟨p, 0, none⟩))) ∧ Hid (wr.heap[D]? = some (.deferred (some []))) ∧ Hid (W0.heap.size ≤ wr.heap.size)) (fun i _ => xs.length - (intOf i).toNat)
    case atStart => exact ⟨0, rfl, Nat.zero_le _, HD1, HKW, HX1, HDF, Lib.hid (by have := HKW.out.size; have := HX1.out.lt; have := HZ0.out; omega)⟩
    case round =>
      obtain ⟨k, rfl, hk, hDk, hKk, hXk, hFk, hSk⟩ := hrel
      have cX := hXk.out.cell
      by_cases hlt : k < xs.length
      · obtain ⟨gp, cp', hvp, _, hgl⟩ := hDk.out.pend.form (by omega)
        injection hvp with e1 _ e3
        subst e1 e3
        have hat : ∀ j u, (xs[k].cells)[j]? = some u → j < 2 → wr.cell? ⟨gp, k * 2 + j, none⟩ = some u := fun j u hu hj => by
          have h1 := hDk.out.pend.cells (g := gp) rfl (k * 2 + j) u (by rw [wrs_at xs k j hlt hj]; exact hu)
          rwa [add_none, Nat.zero_add] at h1
        have f0 := hat 0 _ rfl (by omega)
        have f1 := hat 1 _ rfl (by omega)
        rw [Nat.add_zero] at f0
        have hs := HAt.out _ (List.getElem_mem hlt)
        have HSn := Lib.hid (show backD d now0 ((xs.take (k + 1)).map Wr.pair) = putS (backD d now0 ((xs.take k).map Wr.pair)) ((xs[k]).sec, sect d (xs[k]).sec) by
          rw [List.take_succ_eq_append_getElem hlt, List.map_append]
          exact back_snoc _ _ _ _)
        clear hat
        generalize xs[k] = t at *
        generalize backD d now0 ((xs.take k).map Wr.pair) = nowk at *
        have ba := ((Below.refl wr.heap.size wr).alloc (Nat.le_refl _) (.cells #[.int .i64 (t.sec : Int), sl t.g 64 t.cap] 56)).drew
        have HDa := Lib.hid (hDk.out.below ba)
        have HKa := Lib.hid (hKk.out.trans (Kept.of_below (F := F) ba) (fun k hk => .inl hk))
        have HXa := Lib.hid (show Boxed (wr.alloc (.cells #[.int .i64 (t.sec : Int), sl t.g 64 t.cap] 56)).drew W.heap.size 25 (.pointer (some ⟨p, 0, none⟩)) from (hXk.out.alloc _))
        have HFa := Lib.hid (show (wr.alloc (.cells #[.int .i64 (t.sec : Int), sl t.g 64 t.cap] 56)).drew.heap[D]? = some (.deferred (some [])) from (Below.heap_alloc _ _ _ (Array.getElem?_eq_some_iff.1 hFk.out).1).trans hFk.out)
        have hTa : (wr.alloc (.cells #[.int .i64 (t.sec : Int), sl t.g 64 t.cap] 56)).drew.cell? ⟨wr.heap.size, 0, none⟩ = some (.int .i64 (t.sec : Int)) := by
          rw [show (wr.alloc (.cells #[.int .i64 (t.sec : Int), sl t.g 64 t.cap] 56)).drew.cell? ⟨wr.heap.size, 0, none⟩ = (wr.alloc (.cells #[.int .i64 (t.sec : Int), sl t.g 64 t.cap] 56)).cell? ⟨wr.heap.size, 0, none⟩ from rfl, cell_of_row _ _ 0 _ _ _ (heap_alloc_new wr _)]
          rfl
        obtain ⟨n0, n1, _, _, _, _⟩ := HDa.out.facts
        have nX := HXa.out.cell
        have HS0 := Lib.hid (And.intro nX (And.intro n1 (And.intro n0 hTa)))
        have CS1 := Lib.hid (fun W => sector_any bn d.length cn t.sec hs hL hcn W)
        have CS2 := Lib.hid (fun W => sector_any bd d.length cd t.sec hs hL hcd W)
        have hXlt : W.heap.size < wr.heap.size := hXk.out.lt
        have HSrc := Lib.hid (row_src (sect_bytes HDa.out.dur hs) (sect_len d t.sec hs))
        have HSl := Lib.hid (sect_len d t.sec hs)
        have hsn : 64 * t.sec + 64 ≤ d.length := hs
        have HTa := Lib.hid hTa
        have hTn : wr.heap.size ≠ bn := fun e => by have := hDk.out.lt _ hDk.out.fp.2.2.1; omega
        clear ba nX n0 n1 hTa c2
        go_wp2_with fail
        clear cX f0 f1
        go_region_held3 (fun w' => w'.cell? ⟨W.heap.size, 0, none⟩ = some (.pointer (some ⟨p, 0, none⟩)) ∧ w'.cell? ⟨p, 1, none⟩ = some (sl bn d.length cn) ∧ w'.cell? ⟨p, 0, none⟩ = some (sl bd d.length cd) ∧ w'.cell? ⟨wr.heap.size, 0, none⟩ = some (.int .i64 (t.sec : Int)))
          (first | assumption | exact HS0.out | exact HS4.out)
          (first
            | (go_at_call 23; (first | (with_reducible refine (CS1.out _).mono ?_) | (with_reducible refine (CS2.out _).mono ?_)); rintro en w2 ⟨rfl, rfl⟩)
            | (refine step_copy_onto rfl (.tmp 34) (.tmp 41) _ _ rfl 5 Tryd.underlying22 sizeB1 bn (64 * t.sec) 64 _ rfl (some ⟨bd, 64 * t.sec, none⟩) 64 _ rfl 0 d.length cn 5 _ HDa.out.now (u8s (sect d t.sec)) ?_ ?_ (u8s_one _) (fun _ => HSrc.out) ?_; (rw [u8s_length, HSl.out]; rfl); (rw [u8s_length, HSl.out]; exact hsn); intro w4 o4 g4 z4; have HS4 := Lib.hid (HDa.out.still HXa.out hbnX HTa.out hTn g4.out)))
        all_goals
          have h4 := o4.out
          rw [splice_put _ _ _ HSl.out, ← HSn.out] at h4
          obtain ⟨D4', K4'⟩ := HDa.out.renow h4 g4.out
          have D4 := Lib.hid D4'
          have K4 := Lib.hid (HKa.out.trans K4' (fun k hk => .inl hk))
          have X4 := Lib.hid (HXa.out.kept g4.out (by intro e; injection e with e; exact hbnX e.symm))
          have F4 := Lib.hid ((g4.out.block D (Array.getElem?_eq_some_iff.1 HFa.out).1 (by intro e; injection e with e; have := HDz.out; omega)).trans HFa.out)
          have S4 := Lib.hid (show W0.heap.size ≤ w4.heap.size from by have h1 := z4.out; have h2 := hSk.out; simp at h1; omega)
          clear h4 D4' K4' o4 g4 z4 HS4 HS0 CS1 CS2 HSrc HSl HDa HKa HXa HFa HTa
          go_wp2_with fail
          go_roundw
          case rel => exact ⟨k + 1, by go_num, by omega, D4, K4, X4, F4, S4⟩
          case measure => simp [intOf]; omega
      · have hke : k = xs.length := by omega
        subst hke
        have hDe := hDk.out
        rw [List.take_length, HBk.out] at hDe
        obtain ⟨_, _, c2, _, _, hfz⟩ := hDe.facts
        have hpl2 := hDe.plt
        have HDe := Lib.hid hDe.clear
        clear hDe
        go_wp2_with fail
        have hfp := HFl.out p HF2.out.1
        have hz := HZ0.out
        have hDz := HDz.out
        have hFd : (wr.setCell ⟨p, 2, none⟩ (.slice none 0 0)).heap[D]? = some (.deferred (some [])) := (Below.heap_setCell _ _ _ _ (show D ≠ p by omega)).trans hFk.out
        refine ⟨by simp, .inl ⟨_, _, rfl, run_takeDeferred hFd, ?_⟩⟩
        have hkp : Kept (fun k => k = D) (wr.setCell ⟨p, 2, none⟩ (.slice none 0 0)) ((wr.setCell ⟨p, 2, none⟩ (.slice none 0 0)).putObj D (.deferred none)) := (Kept.refl _ _).grown (grownBy_putObj' _ _ _) (fun k e => .inl (by injection e with e; exact e.symm))
        refine ⟨_, results_none rfl _ _ _, rfl, ?_, ?_⟩
        · rw [HDE.out]
          exact HDe.out.keep hkp (fun k hf e => by have := HFl.out k hf; omega)
        · exact (hKk.out.setCell (.inl HF2.out.1) _).trans hkp (fun k e => .inr (by omega))
end Go.Proofs.YtcjneloelbgboaaDoor
