/- What a writer's Num does: a number's bytes behind what is written, or an error. -/
import Derived.Test.YtcmihmilkcihcaaDoorPackR
import Derived.Test.YtcmihmilkcihcaaDoorBits7
import Derived.Test.YtcmihmilkcihcaaDoorAppS
import Derived.Test.YtcmihmilkcihcaaDoorDigit
import Derived.Deep.RegionLaw
import Derived.Outline
namespace Go.Proofs.YtcmihmilkcihcaaDoor
open Go.RowKit Tide

/-- A writer behind an append that is stored. -/
theorem outS_put {a : Nat → Addr} {W U w2 : World} {F : Nat → Prop} {p : Nat} {q t r : List UInt8} {v v' x : Value} (hp : F p) (hF : ∀ k, F k → k < W.heap.size) (hA : Away a F) (hE : Errs W a) (hWU : Kept F W U) (hU2 : Kept (fun k => v.ownBlock = some k) U w2)
    (hT : Two w2 p 30 x .nilIface) (hv : ∀ k, v.ownBlock = some k → F k ∧ k ≠ p) (h1 : w2.ownsRow 0 5 1 v' r.length (u8s r)) (h3 : v'.ownBlock = v.ownBlock ∨ v'.ownBlock = some U.heap.size) (hr : r = q ++ t) (hl : r.length ≤ 65536) (n : Nat) :
    OutR (OutS a) W F p (some (q ++ t)) n (.returned (.tuple #[])) (w2.setCell ⟨p, 0, none⟩ v') := by
  subst hr
  have hs := hWU.size
  have hpl := hF p hp
  have hne : ∀ k, v'.ownBlock = some k → (F k ∨ k = U.heap.size) ∧ k ≠ p := fun k hk => by
    rcases h3 with e | e
    · exact ⟨.inl (hv k (e ▸ hk)).1, (hv k (e ▸ hk)).2⟩
    · rw [e] at hk
      injection hk with hk
      exact ⟨.inr hk.symm, by omega⟩
  have hk3 : Kept (fun k => k = p) w2 (w2.setCell ⟨p, 0, none⟩ v') := (Kept.refl (fun k => k = p) w2).setCell (p := ⟨p, 0, none⟩) (.inl rfl) _
  have hW2 : Kept F W (w2.setCell ⟨p, 0, none⟩ v') := (hWU.trans hU2 (fun i hi => .inl (hv i hi).1)).trans hk3 (fun i hi => by subst hi; exact .inl hp)
  refine ⟨rfl, fun k => F k ∨ (W.heap.size ≤ k ∧ k < (w2.setCell ⟨p, 0, none⟩ v').heap.size), ⟨.inl hp, fun k hf => ?_, hA.more hE (fun k hf => hf.imp id And.left), v', .nilIface, hT.setA v', fun k hkk => ?_, (outV_ok a _ _ _ hl).2 ⟨rfl, hk3.own h1 (fun k hk => (hne k hk).2)⟩⟩, fun k hf => ?_, hW2⟩
  · rcases hf with hf | hf
    · exact Nat.lt_of_lt_of_le (hF k hf) hW2.size
    · exact hf.2
  · refine ⟨?_, (hne k hkk).2⟩
    rcases (hne k hkk).1 with h | h
    · exact .inl h
    · have := (h1.lt k hkk).2
      have e2 : (w2.setCell ⟨p, 0, none⟩ v').heap.size = w2.heap.size := by simp
      exact .inr ⟨by omega, by omega⟩
  · rcases hf with hf | hf
    · exact .inl hf
    · exact .inr hf.1

theorem arr9 : Tryd.prog.arrayLen 59 = 9 := by kernel_rfl
theorem arrT : Tryd.prog.underlying 59 = some (.array (Tryd.prog.arrayLen 59) (Tryd.prog.elem 59)) := by kernel_rfl
theorem arrS (w : World) : (Go.sizeOf (Tryd.prog.elem 59)).run Tryd.prog w = .ok 1 w := by kernel_rfl
/-- The first bytes of the array. -/
theorem cut9 (g k : Nat) (hk : k + 1 ≤ 9) (W : World) : (Instr.sliceAt 59 (.pointer (some ⟨g, 0, none⟩)) none (some (.int .i64 ((k : Int) + 1))) none).run Tryd.prog W = .ok (.slice (some ⟨g, 0, none⟩) (k + 1) 9) W := by
  rw [run_sliceAt_array_h W _ _ arrT _ _ (by omega) (by rw [arr9]; omega), arrS, arr9]
  have e : ((k : Int) + 1).toNat = k + 1 := by omega
  simp only [Result.andThen, slicedAt, e]
  rw [if_neg (by omega)]
  simp [Addr.add]

set_option maxRecDepth 100000 in
set_option maxHeartbeats 2000000 in
theorem onum_good (a : Nat → Addr) (W : World) (F : Nat → Prop) (p : Nat) (st : Option (List UInt8)) (n : Nat) (m : Nat) (h : OutS a W F p st n) (hm : m ≤ 4611686018427387903) (hE : Errs W a) :
    Calls Tryd.prog 8 #[.pointer (some ⟨p, 0, none⟩), .int .i64 m] W (OutR (OutS a) W F p (st.map (· ++ num7 m)) (n + 9)) := by
  obtain ⟨i0, hi, hz0, hz1, hz2⟩ := info_parts infoB
  have HI := Lib.hid hi
  have hq1 : decide ((m : Int) < 0) = false := by simp
  have hq2 : decide ((4611686018427387903 : Int) < (m : Int)) = false := by simp; omega
  have H := Lib.hid h
  have HE := Lib.hid hE
  have D0 := Lib.hid (Digits.start W 59)
  have HM := Lib.hid hm
  clear h hE hi hm
  go_enter Tryd.func8, Tryd.ntmps8
  go_wp2_with fail
  clear hq1 hq2
  go_loopw [1, 5] (fun u s wr => ∃ (m' k : Nat) (ds : List UInt8), u = .int .i64 m' ∧ s = .int .i64 k ∧ m' ≤ m ∧ Hid (ds.length = k ∧ num7 m = ds ++ num7 m') ∧ Digits W W.heap.size 59 ds wr) (fun u _ _ => (intOf u).toNat)
  case atStart => exact ⟨m, 0, [], rfl, rfl, Nat.le_refl _, Lib.hid ⟨rfl, rfl⟩, D0.out⟩
  case round =>
    rename_i wr
    obtain ⟨m', k, ds, rfl, rfl, hmm, hn, hd⟩ := hrel
    have hle : m' ≤ 4611686018427387903 := Nat.le_trans hmm HM.out
    have hk8 : k ≤ 8 := by
      have h9 := num7_len9 (show m < 2 ^ 62 by have := HM.out; omega)
      rw [hn.out.2, List.length_append, hn.out.1] at h9
      have := num7_pos m'
      omega
    have HD := Lib.hid hd
    clear hd
    obtain ⟨⟨z, hz⟩, hfr⟩ := HD.out.facts k (by omega)
    have hk9 : (k : Int) < 9 := by omega
    by_cases hlt : 127 < m'
    · have hq : decide ((127 : Int) < (m' : Int)) = true := by simp; omega
      have e1 : bits .and .i64 (m' : Int) 127 = (m' : Int) % 128 := by have := i64_low7 m' (by omega); rw [this]; omega
      have e2 : bits .or .i64 ((m' : Int) % 128) 128 = (m' : Int) % 128 + 128 := by have := i64_more (m' % 128) (by omega); rw [show (m' : Int) % 128 = ((m' % 128 : Nat) : Int) by omega, this]; omega
      go_wp2_with fail
      go_roundw
      case rel => exact ⟨m' / 128, k + 1, ds ++ [UInt8.ofNat (m' % 128 + 128)], by go_num, by go_num, by omega, Lib.hid ⟨by rw [List.length_append, hn.out.1]; rfl, by rw [hn.out.2, num7_ge (by omega)]; simp⟩, HD.out.put (Nat.le_refl _) _ k hn.out.1.symm (by omega) _ (byte_high m')⟩
      case measure => simp [intOf]; omega
    · have hq : decide ((127 : Int) < (m' : Int)) = false := by simp; omega
      have D2 := Lib.hid (HD.out.put (Nat.le_refl _) (UInt8.ofNat m') k hn.out.1.symm (by omega) (m' : Int) (by rw [UInt8.toNat_ofNat_of_lt' (show m' < 256 by omega)]))
      have hfull := Lib.hid (show (ds ++ [UInt8.ofNat m']).length = k + 1 ∧ num7 m = ds ++ [UInt8.ofNat m'] from ⟨by rw [List.length_append, hn.out.1]; rfl, by rw [hn.out.2, num7_lt (by omega)]⟩)
      have HU := Lib.hid (outS_keep H.out (Kept.of_below (F := fun _ => False) D2.out.below) (fun _ _ h => h))
      have HEU := Lib.hid (HE.out.below D2.out.below)
      have cR := Lib.hid (show Calls Tryd.prog 26 #[.pointer (some ⟨p, 0, none⟩), .int .i64 ((k : Int) + 1)] _ (RoomR a _ F p st (k + 1)) from room_any a _ F p st n (k + 1) HU.out HEU.out)
      go_wp2_with fail
      clear hz hfr hq
      generalize wr.setCell ⟨W.heap.size, k, none⟩ (.int .u8 (m' : Int)) = U at *
      refine cR.out.mono ?_
      rintro e w1 (⟨rfl, rfl, q, A, c, rfl, hqs, htwo, hown, hob⟩ | ⟨rfl, hk, hout⟩)
      · have HT := Lib.hid htwo
        have HO := Lib.hid hown
        have HOB := Lib.hid hob
        obtain ⟨hp, g0, g1, gf⟩ := htwo.facts
        have hcut := cut9 W.heap.size k (by omega)
        clear htwo hown hob
        go_wp2_with fail
        go_region_law (first | (refine step_append_row _ rfl (.tmp 40) (.tmp 42) _ rfl 0 5 i0 (.int .u8 0) 1 Tryd.underlying26 HI.out hz0 hz1 hz2 rfl _ q.length (u8s q) rfl HO.out (W.heap.size + 1) _ (u8s (ds ++ [UInt8.ofNat m'])) rfl (D2.out.row (by rw [hfull.out.1]; omega) _ (Nat.lt_succ_self _) _ (by rw [hfull.out.1])) (u8s_one _) ?_ ?_ ?_ ?_; (rw [u8s_length, hfull.out.1]; unfold maxLen; omega); (rw [u8s_length, hfull.out.1]; omega); (exact Nat.zero_le _); intro v2 w2 h1 h2 h3 _; have hk2 := Kept.grown (F := fun k => (Value.slice A q.length c).ownBlock = some k) (Kept.refl _ U).drew h2 (fun k hk => .inl hk); have HT2 := Lib.hid (HT.out.kept hk2 (fun e => (HOB.out p e).2 rfl)); obtain ⟨hp2, c0, c1, cf⟩ := HT2.out.facts; have HK2 := Lib.hid hk2; obtain ⟨A2, cap2, hv2⟩ := own_form h1; rw [hv2] at h1 h3; have H1 := Lib.hid h1; have H3 := Lib.hid h3; clear h1 h2 h3 hk2 g0 g1; rw [hv2]; clear hv2 v2))
        all_goals
          go_wp2_with fail
          go_end0
          have hl : q.length + (u8s (ds ++ [UInt8.ofNat m'])).length = (q ++ num7 m).length := by rw [u8s_length, hfull.out.2]; exact List.length_append.symm
          have hr : u8s q ++ u8s (ds ++ [UInt8.ofNat m']) = u8s (q ++ num7 m) := by rw [hfull.out.2]; exact (u8s_append _ _).symm
          rw [hl] at H1 H3 ⊢
          rw [hr] at H1
          exact outS_put H.out.1 H.out.2.1 H.out.2.2.1 HE.out (Kept.of_below D2.out.below) HK2.out HT2.out HOB.out H1.out H3.out rfl (by rw [List.length_append, hfull.out.2, hfull.out.1]; exact hqs) _
      · have HOut := Lib.hid hout
        have HK := Lib.hid hk
        clear hout hk
        go_wp2_with fail
        go_end0
        exact ⟨rfl, F, by rw [hfull.out.2]; exact HOut.out _ _ hfull.out.1, fun k hf => .inl hf, (Kept.of_below D2.out.below).trans HK.out (fun _ h => .inl h)⟩

theorem onum_bad (a : Nat → Addr) (W : World) (F : Nat → Prop) (p : Nat) (st : Option (List UInt8)) (n : Nat) (x : Int) (h : OutS a W F p st n) (hx : x < 0 ∨ 4611686018427387903 < x) (hE : Errs W a) :
    Calls Tryd.prog 8 #[.pointer (some ⟨p, 0, none⟩), .int .i64 x] W (OutR (OutS a) W F p none (n + 9)) := by
  obtain ⟨h1, h2, hA, v, y, h3, h4, h5⟩ := h
  have hg := hE.var 0 (by omega)
  simp only [evars, List.getD_cons_zero] at hg
  have hfin : ∀ (w1 : World), Two w1 p 30 (.slice none 0 0) (errAt (a 0)) → Kept (fun k => k = p) W w1 → OutR (OutS a) W F p none (n + 9) (.returned (.tuple #[])) w1 := fun w1 ht hk =>
    ⟨rfl, F, ⟨h1, fun k hf => Nat.lt_of_lt_of_le (h2 k hf) hk.size, hA, _, _, ht, fun k hk => by simp [Value.ownBlock] at hk, rfl, rfl⟩, fun k hf => .inl hf, hk.mono fun i _ hi => by subst hi; exact h1⟩
  have HF := Lib.hid hfin
  have H3 := Lib.hid h3
  clear hfin h5 h3 h4 h2 h1 hE
  rcases Int.lt_or_le x 0 with hl | hl
  · have hq : decide (x < 0) = true := by simp; omega
    clear hx
    go_enter Tryd.func8, Tryd.ntmps8
    go_wp2_with fail
    refine (fail_any _ _ (a 0) p _ H3.out).mono ?_
    rintro e w1 ⟨rfl, ht, hk⟩
    have HR := Lib.hid (HF.out w1 ht hk)
    clear ht hk
    go_wp2_with fail
    go_end0
    exact HR.out
  · have hq : decide (x < 0) = false := by simp; omega
    have hq2 : decide ((4611686018427387903 : Int) < x) = true := by simp; omega
    clear hx
    go_enter Tryd.func8, Tryd.ntmps8
    go_wp2_with fail
    refine (fail_any _ _ (a 0) p _ H3.out).mono ?_
    rintro e w1 ⟨rfl, ht, hk⟩
    have HR := Lib.hid (HF.out w1 ht hk)
    clear ht hk
    go_wp2_with fail
    go_end0
    exact HR.out
/-- Num, of every number. -/
theorem onum_any (a : Nat → Addr) (W : World) (F : Nat → Prop) (p : Nat) (st : Option (List UInt8)) (n : Nat) (x : Int) (h : OutS a W F p st n) (hE : Errs W a) :
    Calls Tryd.prog 8 #[.pointer (some ⟨p, 0, none⟩), .int .i64 x] W (OutR (OutS a) W F p (stNum st x) (n + 9)) := by
  cases hr : rightB x with
  | true =>
    have hb : 0 ≤ x ∧ x ≤ 4611686018427387903 := by unfold rightB at hr; simpa using hr
    obtain ⟨m, rfl⟩ := Int.eq_ofNat_of_zero_le hb.1
    have e : stNum st (m : Int) = st.map (· ++ num7 m) := by unfold stNum; rw [if_pos hr]; simp
    rw [e]
    exact onum_good a W F p st n m h (by omega) hE
  | false =>
    rw [stNum_bad hr]
    exact onum_bad a W F p st n x h (by unfold rightB at hr; simp at hr; omega) hE
end Go.Proofs.YtcmihmilkcihcaaDoor
