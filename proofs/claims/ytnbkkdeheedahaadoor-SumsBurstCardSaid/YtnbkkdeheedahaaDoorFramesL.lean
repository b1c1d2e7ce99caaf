/- The law of Frame, walked: the frame of all bytes is the document's own, and is opened to the same bytes and to what stands behind. -/
import Derived.Test.YtnbkkdeheedahaaDoorOpensL
import Derived.Test.YtnbkkdeheedahaaDoorSizeW
import Derived.Deep.RegionHeld
namespace Go.Proofs.YtnbkkdeheedahaaDoor
open Go.RowKit Tide

set_option maxHeartbeats 400000 in
theorem frame_long (v : Value) (l : List UInt8) (B : Nat) (w : World) (a : Nat → Addr) (hv : Bytes w B v l) (hE : Errs w a) (hl : 2048 < l.length) :
    Calls Tryd.prog 12 #[v] w fun e w' => e = .returned (.tuple #[.slice none 0 0, errAt (a 2)]) ∧ Below w.heap.size w w' := by
  have h1 := hE.var 2 (by omega)
  have hlen := hv.len
  simp only [evars, List.getD_cons_zero, List.getD_cons_succ] at h1
  obtain ⟨A, c, rfl, _, _, _⟩ := hv.form
  clear hE hv
  go_enter Tryd.func12, Tryd.ntmps12
  go_wp2_with fail
  go_quiet (fail)
  go_wp2_with fail
  go_ret2
  exact ⟨rfl, below_drewN (Below.refl _ _) _⟩

theorem take_app {a b : List UInt8} {n : Nat} (h : a.length = n) : (a ++ b).take n = a := by subst h; simp
theorem drop_app {a b : List UInt8} {n : Nat} (h : a.length = n) : (a ++ b).drop n = b := by subst h; simp
/-- A frame is opened to its bytes and to what stands behind. -/
theorem opened_frame (l r : List UInt8) (h : l.length ≤ 2048) : opened (frame l ++ r) = (l, r, 0) := by
  have hs := Crc.sum_lt (le l.length 2 ++ l)
  have hf : frame l ++ r = le l.length 2 ++ (le (Crc.sum (le l.length 2 ++ l)) 4 ++ (l ++ r)) := by simp [frame]
  rw [hf]
  generalize hS : Crc.sum (le l.length 2 ++ l) = S at *
  have t2 : (le l.length 2 ++ (le S 4 ++ (l ++ r))).take 2 = le l.length 2 := take_app (le_length _ _)
  have d2 : (le l.length 2 ++ (le S 4 ++ (l ++ r))).drop 2 = le S 4 ++ (l ++ r) := drop_app (le_length _ _)
  have t4 : (le S 4 ++ (l ++ r)).take 4 = le S 4 := take_app (le_length _ _)
  have d4 : (le S 4 ++ (l ++ r)).drop 4 = l ++ r := drop_app (le_length _ _)
  have d6 : (le l.length 2 ++ (le S 4 ++ (l ++ r))).drop 6 = l ++ r := by rw [show 6 = 2 + 4 from rfl, ← List.drop_drop, d2, d4]
  have n2 : leNum (le l.length 2) = l.length := by rw [leNum_le, Nat.mod_eq_of_lt (by omega)]
  have n4 : leNum (le S 4) = S := by rw [leNum_le, Nat.mod_eq_of_lt (by simpa using hs)]
  have hl : (le l.length 2 ++ (le S 4 ++ (l ++ r))).length = l.length + r.length + 6 := by simp [le_length]; omega
  unfold opened
  rw [t2, n2, hl, if_neg (by omega), if_neg (by omega), if_neg (by omega), d2, t4, n4, d6]
  have tl : (l ++ r).take l.length = l := by simp
  rw [tl, if_pos hS.symm]
  have dl : (le l.length 2 ++ (le S 4 ++ (l ++ r))).drop (l.length + 6) = r := by
    rw [Nat.add_comm, ← List.drop_drop, d6]; simp
  rw [dl]

set_option maxHeartbeats 1000000 in
theorem frames_law (v : Value) (l : List UInt8) (u : Value) (r : List UInt8) (w : World) (a : Nat → Addr) (hp : Bytes w w.heap.size v l) (hr : Bytes w w.heap.size u r) (ht : TabIn w) (hE : Errs w a) :
    Calls Tryd.prog 4 #[v, u] w fun e w' => e = .returned (.bool true) ∧ Below w.heap.size w w' := by
  obtain ⟨i0, hi, hz0, hz1, hz2⟩ := info_parts infoB
  have HI := Lib.hid hi
  have HT := Lib.hid ht
  have HE := Lib.hid hE
  have HP := Lib.hid hp
  have HR := Lib.hid hr
  have hlen := hp.len
  have hlen2 := hr.len
  obtain ⟨A, c, rfl, _, _, _⟩ := hp.form
  obtain ⟨A', c', rfl, _, _, _⟩ := hr.form
  clear ht hE hp hr hi
  by_cases hl : 3000 < l.length
  · go_enter Tryd.func4, Tryd.ntmps4
    go_wp2_with fail
    refine (alive_any _ HT.out).mono ?_
    rintro e w1 ⟨rfl, hb1⟩
    go_wp2_with fail
    go_ret
    exact ⟨rfl, hb1⟩
  by_cases hl2 : 300 < r.length
  · go_enter Tryd.func4, Tryd.ntmps4
    go_wp2_with fail
    refine (alive_any _ HT.out).mono ?_
    rintro e w1 ⟨rfl, hb1⟩
    go_wp2_with fail
    go_ret
    exact ⟨rfl, hb1⟩
  by_cases hl3 : 2048 < l.length
  · go_enter Tryd.func4, Tryd.ntmps4
    go_wp2_with fail
    refine (alive_any _ HT.out).mono ?_
    rintro e w1 ⟨rfl, hb1⟩
    have HB1 := Lib.hid hb1
    have HP1 := Lib.hid ((HP.out.below hb1).more hb1.size)
    clear hb1
    go_wp2_with fail
    refine (nbytes_any _ l _ HP1.out (by omega)).mono ?_
    rintro e w2 ⟨vi, rfl, hri, hb2⟩
    have HB2 := Lib.hid (HB1.out.trans (hb2.mono HB1.out.size))
    have HRI := Lib.hid hri
    have HP2 := Lib.hid ((HP1.out.below hb2).more hb2.size)
    clear hri hb2
    go_wp2_with fail
    refine (frame_long _ l _ _ a HRI.out.bytes (HE.out.below HB2.out) hl3).mono ?_
    rintro e w3 ⟨rfl, hb3⟩
    have HB3 := Lib.hid (HB2.out.trans (hb3.mono HB2.out.size))
    have hp3 := HP2.out.below hb3
    have hr3 := HRI.out.below hb3
    clear hb3
    go_wp2_with fail
    refine (kept_yes _ _ l _ _ hr3 hp3 (by omega)).mono ?_
    rintro e w4 ⟨rfl, n, rfl⟩
    clear hr3 hp3
    go_wp2_with fail
    refine (num_err a 2 (by omega) _ ((HE.out.below HB3.out).drewN n)).mono ?_
    rintro e w5 ⟨rfl, hb5⟩
    have HB5 := Lib.hid ((below_drewN HB3.out n).trans (hb5.mono HB3.out.size))
    clear hb5
    go_wp2_with fail
    refine (size_out l.length (by omega) _).mono ?_
    rintro e w6 ⟨rfl, rfl⟩
    go_wp2_with fail
    go_ret
    exact ⟨rfl, HB5.out⟩
  · go_enter Tryd.func4, Tryd.ntmps4
    go_wp2_with fail
    refine (alive_any _ HT.out).mono ?_
    rintro e w1 ⟨rfl, hb1⟩
    have HB1 := Lib.hid hb1
    have HP1 := Lib.hid ((HP.out.below hb1).more hb1.size)
    have HR1 := Lib.hid ((HR.out.below hb1).more hb1.size)
    clear hb1
    go_wp2_with fail
    refine (nbytes_any _ l _ HP1.out (by omega)).mono ?_
    rintro e w2 ⟨vi, rfl, hri, hb2⟩
    have HB2 := Lib.hid (HB1.out.trans (hb2.mono HB1.out.size))
    have HRI := Lib.hid hri
    have HP2 := Lib.hid ((HP1.out.below hb2).more hb2.size)
    have HR2 := Lib.hid ((HR1.out.below hb2).more hb2.size)
    clear hri hb2
    go_wp2_with fail
    refine (frame_any _ l _ HRI.out.bytes (HT.out.below HB2.out) (by omega)).mono ?_
    rintro e w3 ⟨vf, rfl, hown3, hb3⟩
    have HB3 := Lib.hid (HB2.out.trans (hb3.mono HB2.out.size))
    have hF3 : Bytes w3 w3.heap.size vf (frame l) := Bytes.of_own hown3
    have HF3 := Lib.hid hF3
    have HP3 := Lib.hid ((HP2.out.below hb3).more hb3.size)
    have HR3 := Lib.hid ((HR2.out.below hb3).more hb3.size)
    have HRI3 := Lib.hid ((HRI.out.below hb3).more hb3.size)
    obtain ⟨AF, cF, rfl, _, _, _⟩ := hF3.form
    clear hb3 hown3 hF3
    go_wp2_with fail
    refine (kept_yes _ _ l _ _ HRI3.out HP3.out (by omega)).mono ?_
    rintro e w4 ⟨rfl, n, rfl⟩
    have HB4 := Lib.hid (below_drewN HB3.out n)
    have HP4 := Lib.hid (HP3.out.drewN n)
    have HR4 := Lib.hid (HR3.out.drewN n)
    have HF4 := Lib.hid (HF3.out.drewN n)
    have HT4 := Lib.hid (HT.out.below HB4.out)
    have HE4 := Lib.hid (HE.out.below HB4.out)
    rw [show w3.heap.size = (w3.drewN n).heap.size from rfl] at HP4 HR4 HF4
    generalize w3.drewN n = w4 at *
    go_wp2_with (at_builtin; refine wpList_append_row _ rfl (.tmp 50) (.tmp 51) _ rfl w4.heap.size 5 i0 (.int .u8 0) 1 Tryd.underlying24 HI.out hz0 hz1 hz2 rfl _ 0 [] rfl ?a1 w4.heap.size _ (u8s (frame l)) rfl (HF4.out.alloc (Nat.le_refl _)) (u8s_one _) ?a3 ?a4 ?a5 ?_)
    case a1 => exact own_new _ _ _ _ _ _ _ _ rfl (Nat.le_refl _) (by simp) (by simp [maxLen]) rfl (by simp)
    case a3 => rw [u8s_length, frame_length]; unfold maxLen; omega
    case a4 => rw [u8s_length, frame_length]; omega
    case a5 => simp
    intro v5 w5 hown5 hg5 _
    have hb5 := ((Below.refl w4.heap.size w4).alloc (Nat.le_refl _) (.cells #[] 5)).grown hg5 (by simp) (fun g hg => by simp [Value.ownBlock] at hg; omega)
    have HO5 := Lib.hid hown5
    have HB5 := Lib.hid hb5
    clear hown5 hg5 hb5
    go_wp2_with (at_builtin; refine wpList_append_row _ rfl (.tmp 52) (.tmp 53) _ rfl w4.heap.size 5 i0 (.int .u8 0) 1 Tryd.underlying24 HI.out hz0 hz1 hz2 rfl _ _ _ rfl HO5.out w4.heap.size _ (u8s r) rfl (HR4.out.below HB5.out) (u8s_one _) ?b3 ?b4 ?b5 ?_)
    case b3 => rw [u8s_length, u8s_length, frame_length]; unfold maxLen; omega
    case b4 => rw [u8s_length, u8s_length, frame_length]; omega
    case b5 => exact HB5.out.size
    intro v6 w6 hown6 hg6 _
    have hb6 := HB5.out.grown hg6 HB5.out.size (fun g hg => (HO5.out.lt g hg).1)
    rw [← u8s_append] at hown6
    have HR6 := Lib.hid (Bytes.of_own hown6)
    have HB6 := Lib.hid hb6
    clear hown6 hg6 hb6
    go_wp2_with fail
    refine (open_all _ (frame l ++ r) _ a HR6.out (HT4.out.below HB6.out) (HE4.out.below HB6.out) (by rw [List.length_append, frame_length]; omega)).mono ?_
    rw [opened_frame l r (by omega)]
    rintro e w7 ⟨v1, v2, x, rfl, h1, h2, hx, hb7⟩
    have hx0 : x = .nilIface := by
      rcases hx with ⟨_, e⟩ | ⟨m, _, e, _⟩
      · exact e
      · simp at e
    subst hx0
    have HB7 := Lib.hid (HB6.out.trans (hb7.mono HB6.out.size))
    have HW7 := Lib.hid (HB4.out.trans (HB7.out.mono HB4.out.size))
    have K0 := Lib.hid (show ∀ W : World, Below w7.heap.size w7 W → Bytes W W.heap.size (.slice AF (frame l).length cF) (frame l) from fun W hb => ((HF4.out.below HB7.out).more HB7.out.size |>.below hb).more hb.size)
    have K1 := Lib.hid (show ∀ W : World, Below w7.heap.size w7 W → Bytes W W.heap.size v1 l from fun W hb => (Bytes.below h1 hb).more hb.size)
    have K2 := Lib.hid (show ∀ W : World, Below w7.heap.size w7 W → Bytes W W.heap.size v2 r from fun W hb => (Bytes.below h2 hb).more hb.size)
    have K3 := Lib.hid (show ∀ W : World, Below w7.heap.size w7 W → Bytes W W.heap.size (.slice A l.length c) l from fun W hb => ((HP4.out.below HB7.out).more HB7.out.size |>.below hb).more hb.size)
    have K4 := Lib.hid (show ∀ W : World, Below w7.heap.size w7 W → Bytes W W.heap.size (.slice A' r.length c') r from fun W hb => ((HR4.out.below HB7.out).more HB7.out.size |>.below hb).more hb.size)
    clear h1 h2 hx hb7
    go_wp2_with fail
    have hq : ((((frame l).length : Nat) : Int) == (l.length : Int) + 6) = true := by rw [frame_length]; simp
    have KS := Lib.hid (show ∀ W : World, Below w7.heap.size w7 W → ((convert 24 9 (.slice AF (frame l).length cF)).run Tryd.prog W = .ok (.string (text (frame l))) W ∧ (convert 24 9 v1).run Tryd.prog W = .ok (.string (text l)) W ∧ (convert 24 9 v2).run Tryd.prog W = .ok (.string (text r)) W ∧
      (convert 24 9 (.slice A l.length c)).run Tryd.prog W = .ok (.string (text l)) W ∧ (convert 24 9 (.slice A' r.length c')).run Tryd.prog W = .ok (.string (text r)) W) from
      fun W hb => ⟨conv_bytes (K0.out W hb), conv_bytes (K1.out W hb), conv_bytes (K2.out W hb), conv_bytes (K3.out W hb), conv_bytes (K4.out W hb)⟩)
    go_region_held (fun W => (convert 24 9 (.slice AF (frame l).length cF)).run Tryd.prog W = .ok (.string (text (frame l))) W ∧ (convert 24 9 v1).run Tryd.prog W = .ok (.string (text l)) W ∧ (convert 24 9 v2).run Tryd.prog W = .ok (.string (text r)) W ∧ (convert 24 9 (.slice A l.length c)).run Tryd.prog W = .ok (.string (text l)) W ∧ (convert 24 9 (.slice A' r.length c')).run Tryd.prog W = .ok (.string (text r)) W) (first | exact KS.out _ (Below.refl _ _).drew | exact KS.out _ ((Below.refl _ _).drew.trans HB8.out) | assumption) (first | (go_at_call 17; refine (rframe_any _ l _ ?_ ?_).mono ?_; exact K3.out _ (Below.refl _ _).drew; omega; rintro e w8 ⟨v8, rfl, hown8, hb8⟩; have HB8 := Lib.hid hb8; have d8 := conv_bytes (Bytes.of_own hown8); clear hown8 hb8) | (go_at_call 15; refine (size_len l.length ?_ _).mono ?_; omega; rintro e w' ⟨rfl, rfl⟩))
    go_wp2_with fail
    go_ret
    exact ⟨rfl, (HW7.out.trans ((Below.refl w7.heap.size w7).drew.mono HW7.out.size)).trans (HB8.out.mono HW7.out.size)⟩
end Go.Proofs.YtnbkkdeheedahaaDoor
