/- The law of turned bits, walked: a frame in whose text, or in whose sum, bits are turned isn't opened. -/
import Derived.Test.YtnbkkdeheedahaaDoorFramesL
import Derived.Test.YtnbkkdeheedahaaDoorBurstO
import Derived.BigRegion
namespace Go.Proofs.YtnbkkdeheedahaaDoor
open Go.RowKit Tide

theorem x8 (a d k : Nat) (ha : a < 256) : bits .xor .u8 (a : Int) ((d : Int) / 2 ^ (8 * k) % 256) = ((a ^^^ d / 2 ^ (8 * k) % 256 : Nat) : Int) := by
  have h := u8_xor_nat a (d / 2 ^ (8 * k) % 256) ha (by omega)
  rw [show (d : Int) / 2 ^ (8 * k) % 256 = ((d / 2 ^ (8 * k) % 256 : Nat) : Int) by simp]
  exact h
theorem place (n : Int) (len : Nat) (h : 4 ≤ len) : ∃ J : Nat, (IntKind.u64.wrap n).tmod ((len : Int) - 3) = (J : Int) ∧ J + 3 < len := by
  have hq : 0 ≤ IntKind.u64.wrap n := by rw [IntKind.wrap_u64]; omega
  generalize IntKind.u64.wrap n = q at *
  rw [Int.tmod_eq_emod_of_nonneg hq]
  have h1 := Int.emod_nonneg q (show ((len : Int) - 3) ≠ 0 by omega)
  have h2 := Int.emod_lt_of_pos q (show 0 < ((len : Int) - 3) by omega)
  exact ⟨(q % ((len : Int) - 3)).toNat, by omega, by omega⟩
theorem setCell_grown (w : World) (g j : Nat) (u : Value) : w.grownBy (w.setCell ⟨g, j, none⟩ u) (some g) :=
  ⟨rfl, rfl, rfl, by simp [World.setCell], fun i _ hne => Below.heap_setCell w ⟨g, j, none⟩ u i (fun e => hne (by rw [e]))⟩

theorem u8s_set (l : List UInt8) (j : Nat) (c : UInt8) : (u8s l).set j (.int .u8 (c.toNat : Int)) = u8s (l.set j c) := by simp [u8s, List.map_set]
theorem turn_val (d k : Nat) (c : UInt8) : bits .xor .u8 (c.toNat : Int) ((d : Int) / 2 ^ (8 * k) % 256) = ((Crc.turn d k c).toNat : Int) := by
  rw [x8 c.toNat d k c.toNat_lt, Crc.turn_toNat]

set_option maxHeartbeats 1000000 in
theorem burst_law (v : Value) (l : List UInt8) (n m : Int) (w : World) (a : Nat → Addr) (hp : Bytes w w.heap.size v l) (wm : (Lit.int .u32 m).wf = true) (ht : TabIn w) (hE : Errs w a) :
    Calls Tryd.prog 6 #[v, .int .i64 n, .int .u32 m] w fun e w' => e = .returned (.bool true) ∧ Below w.heap.size w w' := by
  obtain ⟨i0, hi, hz0, hz1, hz2⟩ := info_parts infoB
  have HI := Lib.hid hi
  have HT := Lib.hid ht
  have HE := Lib.hid hE
  have HP := Lib.hid hp
  have hlen := hp.len
  obtain ⟨A, c, rfl, _, _, _⟩ := hp.form
  clear ht hE hp hi
  have hm := bounds_u32 wm
  by_cases h4 : l.length < 4
  · go_enter Tryd.func6, Tryd.ntmps6
    go_wp2_with fail
    refine (alive_any _ HT.out).mono ?_
    rintro e w1 ⟨rfl, hb1⟩
    go_wp2_with fail
    go_ret
    exact ⟨rfl, hb1⟩
  by_cases h1000 : 1000 < l.length
  · go_enter Tryd.func6, Tryd.ntmps6
    go_wp2_with fail
    refine (alive_any _ HT.out).mono ?_
    rintro e w1 ⟨rfl, hb1⟩
    go_wp2_with fail
    go_ret
    exact ⟨rfl, hb1⟩
  by_cases hm0 : m = 0
  · subst hm0
    go_enter Tryd.func6, Tryd.ntmps6
    go_wp2_with fail
    refine (alive_any _ HT.out).mono ?_
    rintro e w1 ⟨rfl, hb1⟩
    go_wp2_with fail
    go_ret
    exact ⟨rfl, hb1⟩
  obtain ⟨d, rfl⟩ := Int.eq_ofNat_of_zero_le hm.1
  have hd : d < 4294967296 := by omega
  have hd0 : 0 < d := by omega
  clear hm hm0 wm
  have hdz : ((d : Int) == 0) = false := by simp; omega
  obtain ⟨J, hJ, hJl⟩ := place n l.length (by omega)
  go_enter Tryd.func6, Tryd.ntmps6
  go_wp2_with fail
  refine (alive_any _ HT.out).mono ?_
  rintro e w1 ⟨rfl, hb1⟩
  have HB1 := Lib.hid hb1
  have HP1 := Lib.hid ((HP.out.below hb1).more hb1.size)
  clear hb1
  go_wp2_with fail
  refine (frame_any _ l _ HP1.out (HT.out.below HB1.out) (by omega)).mono ?_
  rintro e w3 ⟨vf, rfl, hown3, hb3⟩
  have HB3 := Lib.hid (HB1.out.trans (hb3.mono HB1.out.size))
  have hF3 : Bytes w3 w3.heap.size vf (frame l) := Bytes.of_own hown3
  have HF3 := Lib.hid hF3
  obtain ⟨AF, cF, rfl, _, _, _⟩ := hF3.form
  clear hb3 hown3 hF3
  have HT3 := Lib.hid (HT.out.below HB3.out)
  have HE3 := Lib.hid (HE.out.below HB3.out)
  go_wp2_with (at_builtin; refine wpList_append_row _ rfl (.tmp 49) (.tmp 50) _ rfl w3.heap.size 5 i0 (.int .u8 0) 1 Tryd.underlying24 HI.out hz0 hz1 hz2 rfl _ 0 [] rfl ?a1 w3.heap.size _ (u8s (frame l)) rfl (HF3.out.alloc (Nat.le_refl _)) (u8s_one _) ?a3 ?a4 ?a5 ?_)
  case a1 => exact own_new _ _ _ _ _ _ _ _ rfl (Nat.le_refl _) (by simp) (by simp [maxLen]) rfl (by simp)
  case a3 => rw [u8s_length, frame_length]; unfold maxLen; omega
  case a4 => rw [u8s_length, frame_length]; omega
  case a5 => simp
  intro v5 w5 hown5 hg5 _
  have hb5 := ((Below.refl w3.heap.size w3).alloc (Nat.le_refl _) (.cells #[] 5)).grown hg5 (by simp) (fun g hg => by simp [Value.ownBlock] at hg; omega)
  rw [u8s_length, frame_length] at hown5
  obtain ⟨G, capG, hvG, hG1, hG2⟩ := hown5.form (by omega)
  subst hvG
  have HO5 := Lib.hid hown5
  have HB5 := Lib.hid hb5
  have hs5 := hb5.size
  clear hown5 hg5 hb5
  go_wp2_with (at_builtin; refine wpList_append_row _ rfl (.tmp 52) (.tmp 53) _ rfl w5.heap.size 5 i0 (.int .u8 0) 1 Tryd.underlying24 HI.out hz0 hz1 hz2 rfl _ 0 [] rfl ?b1 w3.heap.size _ (u8s (frame l)) rfl ((HF3.out.below HB5.out).alloc hs5) (u8s_one _) ?b3 ?b4 ?b5 ?_)
  case b1 => exact own_new _ _ _ _ _ _ _ _ rfl (Nat.le_refl _) (by simp) (by simp [maxLen]) rfl (by simp)
  case b3 => rw [u8s_length, frame_length]; unfold maxLen; omega
  case b4 => rw [u8s_length, frame_length]; omega
  case b5 => simp
  intro v6 w6 hown6 hg6 _
  have hb6 := ((Below.refl w5.heap.size w5).alloc (Nat.le_refl _) (.cells #[] 5)).grown hg6 (by simp) (fun g hg => by simp [Value.ownBlock] at hg; omega)
  rw [u8s_length, frame_length] at hown6
  obtain ⟨H, capH, hvH, hH1, hH2⟩ := hown6.form (by omega)
  subst hvH
  have HO6 := Lib.hid hown6
  have HB6 := Lib.hid hb6
  have HG6 := Lib.hid ((HO5.out.alloc (.cells #[] 5)).kept hg6 (.inr (by simp [Value.ownBlock]; omega)))
  have hs6 := hb6.size
  clear hown6 hg6 hb6
  have hFl := frame_length l
  generalize hF : frame l = F at *
  have HF := Lib.hid hF
  obtain ⟨x0, x1, x2, x3, hFG⟩ := four_of F (6 + J) (by omega)
  obtain ⟨y0, y1, y2, y3, hFH⟩ := four_of F 2 (by omega)
  have hPG : (F.take (6 + J)).length = 6 + J := by simp; omega
  have hPH : (F.take 2).length = 2 := by simp; omega
  generalize hPe : F.take (6 + J) = PG at *
  generalize hSe : F.drop (6 + J + 4) = SG at *
  generalize hPe2 : F.take 2 = PH at *
  generalize hSe2 : F.drop (2 + 4) = SH at *
  have HPe := Lib.hid hPe
  have HSe := Lib.hid hSe
  have HPe2 := Lib.hid hPe2
  have HSe2 := Lib.hid hSe2
  have HFG := Lib.hid hFG
  have HFH := Lib.hid hFH
  have HPG := Lib.hid hPG
  have HPH := Lib.hid hPH
  have HFl := Lib.hid hFl
  clear hFl hF hFG hFH hPG hPH hPe hSe hPe2 hSe2 hJ
  go_wp2_with fail
  go_loopw [55] (fun i wr => ∃ k : Nat, k ≤ 4 ∧ i = .int .i64 k ∧ wr.ownsRow w3.heap.size 5 1 (.slice (some ⟨G, 0, none⟩) (l.length + 6) capG) (l.length + 6) (u8s (PG ++ (part d k x0 x1 x2 x3 ++ SG))) ∧ wr.ownsRow w5.heap.size 5 1 (.slice (some ⟨H, 0, none⟩) (l.length + 6) capH) (l.length + 6) (u8s (PH ++ (part d k y0 y1 y2 y3 ++ SH))) ∧ Below w3.heap.size w3 wr) (fun i _ => 4 - (intOf i).toNat)
  case atStart =>
    refine ⟨0, by omega, rfl, ?_, ?_, HB5.out.trans (HB6.out.mono hs5)⟩
    · rw [part_zero, ← HFG.out]; exact HG6.out
    · rw [part_zero, ← HFH.out]; exact HO6.out
  case round =>
    rename_i i wr
    obtain ⟨k, hk, rfl, hOG, hOH, hbr⟩ := hrel
    have HOG := Lib.hid hOG
    have HOH := Lib.hid hOH
    have HBr := Lib.hid hbr
    clear hOG hOH hbr
    by_cases hlt : k < 4
    · have hcG : wr.cell? ⟨G, 6 + J + k, none⟩ = some (.int .u8 ((orig x0 x1 x2 x3 k).toNat : Int)) := by
        rw [HOG.out.cellAt _ (by omega), ← HPG.out]
        simp only [u8s, List.getElem?_map]
        rw [part_get d k x0 x1 x2 x3 hlt PG SG]
        rfl
      have hfG := HOG.out.frozenAt (6 + J + k)
      have hX := turn_val d k (orig x0 x1 x2 x3 k)
      have hY := turn_val d k (orig y0 y1 y2 y3 k)
      generalize hgx : orig x0 x1 x2 x3 k = ox at *
      generalize hgy : orig y0 y1 y2 y3 k = oy at *
      have HGX := Lib.hid hgx
      have HGY := Lib.hid hgy
      clear hgx hgy
      have W13 := Lib.hid (HOH.out.kept (setCell_grown wr G (6 + J + k) (.int .u8 ((Crc.turn d k ox).toNat : Int))) (.inr (by simp [Value.ownBlock]; omega)))
      have hcH : ((wr.setCell ⟨G, 6 + J + k, none⟩ (.int .u8 ((Crc.turn d k ox).toNat : Int))).drew).cell? ⟨H, 2 + k, none⟩ = some (.int .u8 (oy.toNat : Int)) := by
        show (wr.setCell ⟨G, 6 + J + k, none⟩ (.int .u8 ((Crc.turn d k ox).toNat : Int))).cell? ⟨H, 2 + k, none⟩ = _
        rw [W13.out.cellAt _ (by omega), ← HPH.out]
        simp only [u8s, List.getElem?_map]
        rw [part_get d k y0 y1 y2 y3 hlt PH SH, HGY.out]
        rfl
      have hfH : ((wr.setCell ⟨G, 6 + J + k, none⟩ (.int .u8 ((Crc.turn d k ox).toNat : Int))).drew).frozen? ⟨H, 2 + k, none⟩ = false := W13.out.frozenAt (2 + k)
      have e1 : IntKind.i64.wrap (6 + (J : Int) + (k : Int)) = 6 + (J : Int) + (k : Int) := IntWalk.i64_in _ (by omega)
      have e2 : IntKind.i64.wrap (8 * (k : Int)) = 8 * (k : Int) := IntWalk.i64_in _ (by omega)
      have e3 : IntKind.i64.wrap (2 + (k : Int)) = 2 + (k : Int) := IntWalk.i64_in _ (by omega)
      go_wp2_with fail
      go_region
      go_wp2_with fail
      go_region
      have hG14 := ((HOG.out.stored (6 + J + k) (.int .u8 ((Crc.turn d k ox).toNat : Int))).1).kept (setCell_grown _ H (2 + k) (.int .u8 ((Crc.turn d k oy).toNat : Int))) (.inr (by simp [Value.ownBlock]; omega))
      have hH14 := (W13.out.stored (2 + k) (.int .u8 ((Crc.turn d k oy).toNat : Int))).1
      rw [u8s_set, ← HPG.out, ← HGX.out, part_set d k x0 x1 x2 x3 hlt, HGX.out] at hG14
      rw [u8s_set] at hH14
      rw [← HPH.out] at hH14
      rw [← HGY.out, part_set d k y0 y1 y2 y3 hlt, HGY.out] at hH14
      rw [HPG.out] at hG14
      rw [HPH.out] at hH14
      have HG14 := Lib.hid hG14
      have HH14 := Lib.hid hH14
      clear hG14 hH14 hcG hfG hX hY hcH hfH e1 e2 e3
      go_wp2_with fail
      go_roundw
      case rel => exact ⟨k + 1, by omega, by go_num, HG14.out, HH14.out, ((HBr.out.setCell (p := ⟨G, 6 + J + k, none⟩) hG1 _).setCell (p := ⟨H, 2 + k, none⟩) (by show w3.heap.size ≤ H; omega) _).drew.drew⟩
      case measure => simp [intOf]; omega
    · have hk4 : k = 4 := by omega
      subst hk4
      have hRG : Bytes wr wr.heap.size (.slice (some ⟨G, 0, none⟩) (l.length + 6) capG) (PG ++ (part d 4 x0 x1 x2 x3 ++ SG)) := Bytes.of_own HOG.out
      have hRH : Bytes wr wr.heap.size (.slice (some ⟨H, 0, none⟩) (l.length + 6) capH) (PH ++ (part d 4 y0 y1 y2 y3 ++ SH)) := Bytes.of_own HOH.out
      have hlG : (PG ++ (part d 4 x0 x1 x2 x3 ++ SG)).length = l.length + 6 := by have := HOG.out.1; rw [u8s_length] at this; omega
      have hlH : (PH ++ (part d 4 y0 y1 y2 y3 ++ SH)).length = l.length + 6 := by have := HOH.out.1; rw [u8s_length] at this; omega
      have HRG := Lib.hid hRG
      have HRH := Lib.hid hRH
      have HoG := Lib.hid (opened_text l PG SG J d x0 x1 x2 x3 (by omega) hd (by omega) (by rw [HF.out]; exact HPe.out) (by rw [HF.out]; exact HFG.out))
      have HoH := Lib.hid (opened_sum l PH SH d y0 y1 y2 y3 (by omega) hd (by omega) (by rw [HF.out]; exact HPe2.out) (by rw [HF.out]; exact HFH.out))
      clear hRG hRH
      have HTr := Lib.hid (HT3.out.below HBr.out)
      have HEr := Lib.hid (HE3.out.below HBr.out)
      go_wp2_with fail
      refine (open_all _ (PG ++ (part d 4 x0 x1 x2 x3 ++ SG)) _ a HRG.out HTr.out HEr.out (by omega)).mono ?_
      rw [HoG.out]
      rintro e w7 ⟨v1, v2, xe, rfl, h1, _, hx, hb7⟩
      have H1 := Lib.hid h1
      have HX1 := Lib.hid hx
      have HB7 := Lib.hid hb7
      obtain ⟨A1, c1, rfl, _, _, _⟩ := h1.form
      clear h1 hx hb7
      go_wp2_with fail
      refine (open_all _ (PH ++ (part d 4 y0 y1 y2 y3 ++ SH)) _ a ((HRH.out.below HB7.out).more HB7.out.size) (HTr.out.below HB7.out) (HEr.out.below HB7.out) (by omega)).mono ?_
      rw [HoH.out]
      rintro e w8 ⟨v3, v4, xf, rfl, h3, _, hy, hb8⟩
      have HX2 := Lib.hid hy
      have HB8 := Lib.hid (HB7.out.trans (hb8.mono HB7.out.size))
      obtain ⟨A3, c3, rfl, _, _, _⟩ := h3.form
      clear h3 hy hb8
      go_wp2_with fail
      refine (num_any a xe 5 _ (HEr.out.below HB8.out) HX1.out).mono ?_
      rintro e w9 ⟨rfl, hb9⟩
      have HB9 := Lib.hid (HB8.out.trans (hb9.mono HB8.out.size))
      clear hb9
      go_wp2_with fail
      refine (num_any a xf 5 _ (HEr.out.below HB9.out) HX2.out).mono ?_
      rintro e w10 ⟨rfl, hb10⟩
      go_wp2_with fail
      go_ret
      exact ⟨rfl, HB3.out.trans ((HBr.out.trans (HB9.out.mono HBr.out.size)).trans (hb10.mono (by have h1 := HBr.out.size; have h2 := HB9.out.size; omega)) |>.mono HB3.out.size)⟩
end Go.Proofs.YtnbkkdeheedahaaDoor
