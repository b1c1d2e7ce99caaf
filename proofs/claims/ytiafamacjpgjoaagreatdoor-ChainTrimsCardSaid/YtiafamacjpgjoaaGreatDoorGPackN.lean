/- What a writer's Num does: a number's bytes behind what is written, or an error. -/
import Derived.Test.YtiafamacjpgjoaaGreatDoorGPackO
import Derived.Test.YtiafamacjpgjoaaGreatDoorGBits7
import Derived.Test.YtiafamacjpgjoaaGreatDoorGApp
import Derived.Test.YtiafamacjpgjoaaGreatDoorGClone
import Derived.Test.YtiafamacjpgjoaaGreatDoorGPackD
import Derived.Deep.RegionLaw
import Derived.Outline
namespace Go.Proofs.YtiafamacjpgjoaaGreatDoor
open Go.RowKit Tide

theorem outS_put {a : Nat → Addr} {W U w2 : World} {F : Nat → Prop} {p : Nat} {q t r : List UInt8} {v v' x : Value} (hp : F p) (hF : ∀ k, F k → k < W.heap.size) (hA : Away a F) (hE : Errs W a) (hWU : Kept F W U) (hU2 : Kept (fun k => v.ownBlock = some k) U w2)
    (hT : Two w2 p 205 x .nilIface) (hv : ∀ k, v.ownBlock = some k → F k ∧ k ≠ p) (h1 : w2.ownsRow 0 5 1 v' r.length (u8s r)) (h3 : v'.ownBlock = v.ownBlock ∨ v'.ownBlock = some U.heap.size) (hr : r = q ++ t) (hl : r.length ≤ 65536) (n : Nat) :
    OutR (OutS a) W F p (some (q ++ t)) n (.returned (.tuple #[])) (w2.setCell ⟨p, 0, none⟩ v') := by
  subst hr
  have hs := hWU.size
  have hpl := hF p hp
  have hne : ∀ k, v'.ownBlock = some k → (F k ∨ k = U.heap.size) ∧ k ≠ p := fun k hk => by
    rcases h3 with e | e
    · exact ⟨.inl (hv k (e ▸ hk)).1, (hv k (e ▸ hk)).2⟩
    · rw [e] at hk
      injection hk with hk
      exact ⟨.inr hk.symm, by omega⟩
  have hk3 : Kept (fun k => k = p) w2 (w2.setCell ⟨p, 0, none⟩ v') := (Kept.refl (fun k => k = p) w2).setCell (p := ⟨p, 0, none⟩) (.inl rfl) _
  have hW2 : Kept F W (w2.setCell ⟨p, 0, none⟩ v') := (hWU.trans hU2 (fun i hi => .inl (hv i hi).1)).trans hk3 (fun i hi => by subst hi; exact .inl hp)
  refine ⟨rfl, fun k => F k ∨ (W.heap.size ≤ k ∧ k < (w2.setCell ⟨p, 0, none⟩ v').heap.size), ⟨.inl hp, fun k hf => ?_, hA.more hE (fun k hf => hf.imp id And.left), v', .nilIface, hT.setA v', fun k hkk => ?_, (outV_ok a _ _ _ hl).2 ⟨rfl, hk3.own h1 (fun k hk => (hne k hk).2)⟩⟩, fun k hf => ?_, hW2⟩
  · rcases hf with hf | hf
    · exact Nat.lt_of_lt_of_le (hF k hf) hW2.size
    · exact hf.2
  · refine ⟨?_, (hne k hkk).2⟩
    rcases (hne k hkk).1 with h | h
    · exact .inl h
    · have := (h1.lt k hkk).2
      have e2 : (w2.setCell ⟨p, 0, none⟩ v').heap.size = w2.heap.size := by simp
      exact .inr ⟨by omega, by omega⟩
  · rcases hf with hf | hf
    · exact .inl hf
    · exact .inr hf.1

theorem arr9 : Tryz.prog.arrayLen 227 = 9 := by kernel_rfl
theorem arrT : Tryz.prog.underlying 227 = some (.array (Tryz.prog.arrayLen 227) (Tryz.prog.elem 227)) := by kernel_rfl
theorem arrS (w : World) : (Go.sizeOf (Tryz.prog.elem 227)).run Tryz.prog w = .ok 1 w := by kernel_rfl
theorem cut9 (g k : Nat) (hk : k + 1 ≤ 9) (W : World) : (Instr.sliceAt 227 (.pointer (some ⟨g, 0, none⟩)) none (some (.int .i64 ((k : Int) + 1))) none).run Tryz.prog W = .ok (.slice (some ⟨g, 0, none⟩) (k + 1) 9) W := by
  rw [run_sliceAt_array_h W _ _ arrT _ _ (by omega) (by rw [arr9]; omega), arrS, arr9]
  have e : ((k : Int) + 1).toNat = k + 1 := by omega
  simp only [Result.andThen, slicedAt, e]
  rw [if_neg (by omega)]
  simp [Addr.add]

set_option maxRecDepth 100000 in
set_option maxHeartbeats 2000000 in
theorem onum_good (a : Nat → Addr) (W : World) (F : Nat → Prop) (p : Nat) (st : Option (List UInt8)) (n : Nat) (m : Nat) (h : OutS a W F p st n) (hm : m ≤ 4611686018427387903) (hE : Errs W a) :
    Calls Tryz.prog 126 #[.pointer (some ⟨p, 0, none⟩), .int .i64 m] W (OutR (OutS a) W F p (st.map (· ++ num7 m)) (n + 9)) := by
  obtain ⟨i0, hi, hz0, hz1, hz2⟩ := info_parts infoB
  have HI := Lib.hid hi
  have hq1 : decide ((m : Int) < 0) = false := by simp
  have hq2 : decide ((4611686018427387903 : Int) < (m : Int)) = false := by simp; omega
  have H := Lib.hid h
  have HE := Lib.hid hE
  have D0 := Lib.hid (Digits.start W 227)
  have HM := Lib.hid hm
  clear h hE hi hm
  go_enter Tryz.func126, Tryz.ntmps126
  go_wp2_with fail
  clear hq1 hq2
  go_loopw [1, 5] (fun u s wr => ∃ (m' k : Nat) (ds : List UInt8), u = .int .i64 m' ∧ s = .int .i64 k ∧ m' ≤ m ∧ Hid (ds.length = k ∧ num7 m = ds ++ num7 m') ∧ Digits W W.heap.size 227 ds wr) (fun u _ _ => (intOf u).toNat)
  case atStart => exact ⟨m, 0, [], rfl, rfl, Nat.le_refl _, Lib.hid ⟨rfl, rfl⟩, D0.out⟩
  case round =>
    rename_i wr
    obtain ⟨m', k, ds, rfl, rfl, hmm, hn, hd⟩ := hrel
    have hle : m' ≤ 4611686018427387903 := Nat.le_trans hmm HM.out
    have hk8 : k ≤ 8 := by
      have h9 := num7_len9 (show m < 2 ^ 62 by have := HM.out; omega)
      rw [hn.out.2, List.length_append, hn.out.1] at h9
      have := num7_pos m'
      omega
    have HD := Lib.hid hd
    clear hd
    obtain ⟨⟨z, hz⟩, hfr⟩ := HD.out.facts k (by omega)
    have hk9 : (k : Int) < 9 := by omega
    by_cases hlt : 127 < m'
    · have hq : decide ((127 : Int) < (m' : Int)) = true := by simp; omega
      have e1 : bits .and .i64 (m' : Int) 127 = (m' : Int) % 128 := by have := i64_low7 m' (by omega); rw [this]; omega
      have e2 : bits .or .i64 ((m' : Int) % 128) 128 = (m' : Int) % 128 + 128 := by have := i64_more (m' % 128) (by omega); rw [show (m' : Int) % 128 = ((m' % 128 : Nat) : Int) by omega, this]; omega
      go_wp2_with fail
      go_roundw
      case rel => exact ⟨m' / 128, k + 1, ds ++ [UInt8.ofNat (m' % 128 + 128)], by go_num, by go_num, by omega, Lib.hid ⟨by rw [List.length_append, hn.out.1]; rfl, by rw [hn.out.2, num7_ge (by omega)]; simp⟩, HD.out.put (Nat.le_refl _) _ k hn.out.1.symm (by omega) _ (byte_high m')⟩
      case measure => simp [intOf]; omega
    · have hq : decide ((127 : Int) < (m' : Int)) = false := by simp; omega
      have D2 := Lib.hid (HD.out.put (Nat.le_refl _) (UInt8.ofNat m') k hn.out.1.symm (by omega) (m' : Int) (by rw [UInt8.toNat_ofNat_of_lt' (show m' < 256 by omega)]))
      have hfull := Lib.hid (show (ds ++ [UInt8.ofNat m']).length = k + 1 ∧ num7 m = ds ++ [UInt8.ofNat m'] from ⟨by rw [List.length_append, hn.out.1]; rfl, by rw [hn.out.2, num7_lt (by omega)]⟩)
      have HU := Lib.hid (outS_keep H.out (Kept.of_below (F := fun _ => False) D2.out.below) (fun _ _ h => h))
      have HEU := Lib.hid (HE.out.below D2.out.below)
      have cR := Lib.hid (show Calls Tryz.prog 148 #[.pointer (some ⟨p, 0, none⟩), .int .i64 ((k : Int) + 1)] _ (RoomR a _ F p st (k + 1)) from room_any a _ F p st n (k + 1) HU.out HEU.out)
      go_wp2_with fail
      clear hz hfr hq
      generalize wr.setCell ⟨W.heap.size, k, none⟩ (.int .u8 (m' : Int)) = U at *
      refine cR.out.mono ?_
      rintro e w1 (⟨rfl, rfl, q, A, c, rfl, hqs, htwo, hown, hob⟩ | ⟨rfl, hk, hout⟩)
      · have HT := Lib.hid htwo
        have HO := Lib.hid hown
        have HOB := Lib.hid hob
        obtain ⟨hp, g0, g1, gf⟩ := htwo.facts
        have hcut := cut9 W.heap.size k (by omega)
        clear htwo hown hob
        go_wp2_with fail
        go_region_law (first | (refine step_append_row _ rfl (.tmp 40) (.tmp 42) _ rfl 0 5 i0 (.int .u8 0) 1 Tryz.underlying47 HI.out hz0 hz1 hz2 rfl _ q.length (u8s q) rfl HO.out (W.heap.size + 1) _ (u8s (ds ++ [UInt8.ofNat m'])) rfl (D2.out.row (by rw [hfull.out.1]; omega) _ (Nat.lt_succ_self _) _ (by rw [hfull.out.1])) (u8s_one _) ?_ ?_ ?_ ?_; (rw [u8s_length, hfull.out.1]; unfold maxLen; omega); (rw [u8s_length, hfull.out.1]; omega); (exact Nat.zero_le _); intro v2 w2 h1 h2 h3 _; have hk2 := Kept.grown (F := fun k => (Value.slice A q.length c).ownBlock = some k) (Kept.refl _ U).drew h2 (fun k hk => .inl hk); have HT2 := Lib.hid (HT.out.kept hk2 (fun e => (HOB.out p e).2 rfl)); obtain ⟨hp2, c0, c1, cf⟩ := HT2.out.facts; have HK2 := Lib.hid hk2; obtain ⟨A2, cap2, hv2⟩ := pown_form h1; rw [hv2] at h1 h3; have H1 := Lib.hid h1; have H3 := Lib.hid h3; clear h1 h2 h3 hk2 g0 g1; rw [hv2]; clear hv2 v2))
        all_goals
          go_wp2_with fail
          go_end0
          have hl : q.length + (u8s (ds ++ [UInt8.ofNat m'])).length = (q ++ num7 m).length := by rw [u8s_length, hfull.out.2]; exact List.length_append.symm
          have hr : u8s q ++ u8s (ds ++ [UInt8.ofNat m']) = u8s (q ++ num7 m) := by rw [hfull.out.2]; exact (u8s_append _ _).symm
          rw [hl] at H1 H3 ⊢
          rw [hr] at H1
          exact outS_put H.out.1 H.out.2.1 H.out.2.2.1 HE.out (Kept.of_below D2.out.below) HK2.out HT2.out HOB.out H1.out H3.out rfl (by rw [List.length_append, hfull.out.2, hfull.out.1]; exact hqs) _
      · have HOut := Lib.hid hout
        have HK := Lib.hid hk
        clear hout hk
        go_wp2_with fail
        go_end0
        exact ⟨rfl, F, by rw [hfull.out.2]; exact HOut.out _ _ hfull.out.1, fun k hf => .inl hf, (Kept.of_below D2.out.below).trans HK.out (fun _ h => .inl h)⟩

theorem onum_bad (a : Nat → Addr) (W : World) (F : Nat → Prop) (p : Nat) (st : Option (List UInt8)) (n : Nat) (x : Int) (h : OutS a W F p st n) (hx : x < 0 ∨ 4611686018427387903 < x) (hE : Errs W a) :
    Calls Tryz.prog 126 #[.pointer (some ⟨p, 0, none⟩), .int .i64 x] W (OutR (OutS a) W F p none (n + 9)) := by
  obtain ⟨h1, h2, hA, v, y, h3, h4, h5⟩ := h
  have hg := hE.var 0 (by omega)
  simp only [evars, List.getD_cons_zero] at hg
  have hfin : ∀ (w1 : World), Two w1 p 205 (.slice none 0 0) (errAt (a 0)) → Kept (fun k => k = p) W w1 → OutR (OutS a) W F p none (n + 9) (.returned (.tuple #[])) w1 := fun w1 ht hk =>
    ⟨rfl, F, ⟨h1, fun k hf => Nat.lt_of_lt_of_le (h2 k hf) hk.size, hA, _, _, ht, fun k hk => by simp [Value.ownBlock] at hk, rfl, rfl⟩, fun k hf => .inl hf, hk.mono fun i _ hi => by subst hi; exact h1⟩
  have HF := Lib.hid hfin
  have H3 := Lib.hid h3
  clear hfin h5 h3 h4 h2 h1 hE
  rcases Int.lt_or_le x 0 with hl | hl
  · have hq : decide (x < 0) = true := by simp; omega
    clear hx
    go_enter Tryz.func126, Tryz.ntmps126
    go_wp2_with fail
    refine (fail_any _ _ (a 0) p _ H3.out).mono ?_
    rintro e w1 ⟨rfl, ht, hk⟩
    have HR := Lib.hid (HF.out w1 ht hk)
    clear ht hk
    go_wp2_with fail
    go_end0
    exact HR.out
  · have hq : decide (x < 0) = false := by simp; omega
    have hq2 : decide ((4611686018427387903 : Int) < x) = true := by simp; omega
    clear hx
    go_enter Tryz.func126, Tryz.ntmps126
    go_wp2_with fail
    refine (fail_any _ _ (a 0) p _ H3.out).mono ?_
    rintro e w1 ⟨rfl, ht, hk⟩
    have HR := Lib.hid (HF.out w1 ht hk)
    clear ht hk
    go_wp2_with fail
    go_end0
    exact HR.out
theorem onum_any (a : Nat → Addr) (W : World) (F : Nat → Prop) (p : Nat) (st : Option (List UInt8)) (n : Nat) (x : Int) (h : OutS a W F p st n) (hE : Errs W a) :
    Calls Tryz.prog 126 #[.pointer (some ⟨p, 0, none⟩), .int .i64 x] W (OutR (OutS a) W F p (stNum st x) (n + 9)) := by
  cases hr : Tide.rightB x with
  | true =>
    have hb : 0 ≤ x ∧ x ≤ 4611686018427387903 := by unfold Tide.rightB at hr; simpa using hr
    obtain ⟨m, rfl⟩ := Int.eq_ofNat_of_zero_le hb.1
    have e : stNum st (m : Int) = st.map (· ++ num7 m) := by unfold stNum; rw [if_pos hr]; simp
    rw [e]
    exact onum_good a W F p st n m h (by omega) hE
  | false =>
    rw [stNum_bad hr]
    exact onum_bad a W F p st n x h (by unfold Tide.rightB at hr; simp at hr; omega) hE
end Go.Proofs.YtiafamacjpgjoaaGreatDoor

/- What a writer's Done does; a write behind a write. -/
namespace Go.Proofs.YtiafamacjpgjoaaGreatDoor
open Go.RowKit Tide

theorem outR_trans {O : OutP} {W w1 w2 : World} {F F1 : Nat → Prop} {p n : Nat} {st : Option (List UInt8)} {e : Ending} (hF1 : ∀ k, F1 k → F k ∨ W.heap.size ≤ k) (hK1 : Kept F W w1) (h : OutR O w1 F1 p st n e w2) : OutR O W F p st n e w2 := by
  obtain ⟨he, F2, hO, hF2, hK2⟩ := h
  refine ⟨he, F2, hO, fun k hf => ?_, hK1.trans hK2 hF1⟩
  rcases hF2 k hf with h | h
  · exact hF1 k h
  · exact .inr (Nat.le_trans hK1.size h)
theorem outS_n {a : Nat → Addr} {W : World} {F : Nat → Prop} {p : Nat} {st : Option (List UInt8)} {n n' : Nat} (h : OutS a W F p st n) : OutS a W F p st n' := h

end Go.Proofs.YtiafamacjpgjoaaGreatDoor

/- A writer of bytes, since a memory; what Done answers where nothing was wrong. -/
namespace Go.Proofs.YtiafamacjpgjoaaGreatDoor
open Go.RowKit Tide

def PW (a : Nat → Addr) (W : World) (F : Nat → Prop) (p : Nat) (st : Option (List UInt8)) (w : World) : Prop := ∃ F1, OutS a w F1 p st 0 ∧ (∀ k, F1 k → F k ∨ W.heap.size ≤ k) ∧ Kept F W w
def PWR (a : Nat → Addr) (W : World) (F : Nat → Prop) (p : Nat) (st : Option (List UInt8)) (e : Ending) (w : World) : Prop := e = .returned (.tuple #[]) ∧ PW a W F p st w
section
variable {a : Nat → Addr} {W w w' : World} {F F1 : Nat → Prop} {p n : Nat} {st st' : Option (List UInt8)}
theorem PW.start (h : OutS a W F p st n) : PW a W F p st W := ⟨F, outS_n h, fun _ hk => .inl hk, Kept.refl _ _⟩
theorem PW.trans (hF1 : ∀ k, F1 k → F k ∨ W.heap.size ≤ k) (hK : Kept F W w) (h : PW a w F1 p st w') : PW a W F p st w' := by
  obtain ⟨F2, hO, hF2, hK2⟩ := h
  refine ⟨F2, hO, fun k hf => ?_, hK.trans hK2 hF1⟩
  rcases hF2 k hf with h | h
  · exact hF1 k h
  · exact .inr (Nat.le_trans hK.size h)
theorem PW.call (h : PW a W F p st w) {f : FuncId} {args : Array Value} (hc : ∀ F1, OutS a w F1 p st 0 → (∀ k, F1 k → F k ∨ W.heap.size ≤ k) → Kept F W w → Calls Tryz.prog f args w (PWR a w F1 p st')) : Calls Tryz.prog f args w (PWR a W F p st') := by
  obtain ⟨F1, hO, hF1, hK⟩ := h
  exact (hc F1 hO hF1 hK).mono fun e w' ⟨he, hp⟩ => ⟨he, hp.trans hF1 hK⟩
theorem PW.errs (h : PW a W F p st w) (hE : Errs W a) (hA : Away a F) : Errs w a := by
  obtain ⟨_, _, _, hK⟩ := h
  exact hE.kept hK hA
theorem PW.cell (h : PW a W F p st w) {b o : Nat} (hb : b < W.heap.size) (hf : ¬ F b) : w.cell? ⟨b, o, none⟩ = W.cell? ⟨b, o, none⟩ := by
  obtain ⟨_, _, _, hK⟩ := h
  exact hK.cell (p := ⟨b, o, none⟩) hb hf
theorem PW.num (h : PW a W F p st w) (hE : Errs W a) (hA : Away a F) (z : Int) : Calls Tryz.prog 126 #[.pointer (some ⟨p, 0, none⟩), .int .i64 z] w (PWR a W F p (stNum st z)) :=
  h.call fun F1 hO _ _ => (onum_any a w F1 p st 0 z hO (h.errs hE hA)).mono fun _ _ ⟨he, F2, hO2, hF2, hK2⟩ => ⟨he, F2, outS_n hO2, hF2, hK2⟩
end

theorem odone_ok (a : Nat → Addr) (W : World) (F : Nat → Prop) (p : Nat) (q : List UInt8) (n : Nat) (h : OutS a W F p (some q) n) (hq : q.length ≤ 65536) :
    Calls Tryz.prog 128 #[.pointer (some ⟨p, 0, none⟩)] W fun e w' => ∃ v, e = .returned (.tuple #[v, .nilIface]) ∧ w'.ownsRow W.heap.size 5 1 v q.length (u8s q) ∧ Below W.heap.size W w' := by
  obtain ⟨h1, h2, hA, v, x, h3, h4, h5⟩ := h
  rw [outV_ok a W v x hq] at h5
  obtain ⟨rfl, hown⟩ := h5
  have cC := Lib.hid (clone_any v q W.heap.size W (Bytes.of_own hown) (Nat.le_refl _) (by omega))
  obtain ⟨A, c, rfl⟩ := pown_form hown
  obtain ⟨_, g0, g1, gf⟩ := h3.facts
  clear hown h3 hq h1 h2 hA h4
  go_enter Tryz.func128, Tryz.ntmps128
  go_wp2_with fail
  refine cC.out.mono ?_
  rintro e w1 ⟨v1, rfl, ho, hb⟩
  have HO := Lib.hid ho
  have HB := Lib.hid hb
  clear ho hb
  go_wp2_with fail
  go_ret2
  exact ⟨_, rfl, HO.out, HB.out⟩
end Go.Proofs.YtiafamacjpgjoaaGreatDoor

/- What a writer's Text does. -/
namespace Go.Proofs.YtiafamacjpgjoaaGreatDoor
open Go.RowKit Tide

set_option maxHeartbeats 1000000 in
theorem otext_any (a : Nat → Addr) (W : World) (F : Nat → Prop) (p : Nat) (st : Option (List UInt8)) (n : Nat) (s : ByteArray) (h : OutS a W F p st n) (hs : s.size ≤ 65546) (hE : Errs W a) :
    Calls Tryz.prog 127 #[.pointer (some ⟨p, 0, none⟩), .string s] W (OutR (OutS a) W F p (stText st s) (n + 9 + s.size)) := by
  obtain ⟨i0, hi, hz0, hz1, hz2⟩ := info_parts infoB
  have HI := Lib.hid hi
  have H := Lib.hid h
  have HE := Lib.hid hE
  have hst : stNum st s.size = st.map (· ++ num7 s.size) := by unfold stNum; rw [if_pos (right_len (by omega))]; simp
  have cN := onum_any a W F p st n s.size h hE
  rw [hst] at cN
  have CN := Lib.hid cN
  have hsl : s.data.toList.length = s.size := by rw [Array.length_toList]; rfl
  have HSL := Lib.hid hsl
  clear hi h hE hst cN hsl
  go_enter Tryz.func127, Tryz.ntmps127
  go_wp2_with fail
  refine CN.out.mono ?_
  rintro e w1 ⟨rfl, F1, hO1, hF1, hK1⟩
  have HK1 := Lib.hid hK1
  have HF1 := Lib.hid hF1
  have HO1 := Lib.hid hO1
  have HE1 := Lib.hid (HE.out.kept hK1 H.out.2.2.1)
  clear hK1 hF1 hO1
  go_wp2_with fail
  refine (room_any a _ F1 p _ _ s.size HO1.out HE1.out).mono ?_
  rintro e w2 (⟨rfl, rfl, q, A, c, hq, hqs, htwo, hown, hob⟩ | ⟨rfl, hk, hout⟩)
  · have HT := Lib.hid htwo
    have HO := Lib.hid hown
    have HOB := Lib.hid hob
    have HQ := Lib.hid hq
    obtain ⟨hp, g0, g1, gf⟩ := htwo.facts
    clear htwo hown hob hq
    obtain ⟨r, hr⟩ : ∃ r, r = q ++ s.data.toList := ⟨_, rfl⟩
    have HR := Lib.hid hr
    have hrl : r.length ≤ 65536 := by rw [hr, List.length_append, HSL.out]; omega
    clear hr
    go_wp2_with (at_builtin; refine wpList_append_text _ rfl (.tmp 16) (.tmp 17) _ _ rfl 0 5 i0 Tryz.underlying47 Tryz.underlying9 HI.out hz0 hz1 hz2 _ q rfl HO.out s rfl r HR.out ?d1 ?d2 ?_)
    case d1 => omega
    case d2 => exact Nat.zero_le _
    intro v4 w4 hown4 hg4 hv4
    have hk2 := Kept.grown (F := fun k => (Value.slice A q.length c).ownBlock = some k) (Kept.refl _ w1) hg4 (fun k hk => .inl hk)
    have HT2 := Lib.hid (HT.out.kept hk2 (fun e => (HOB.out p e).2 rfl))
    obtain ⟨hp2, c0, c1, cf⟩ := HT2.out.facts
    have HK2 := Lib.hid hk2
    obtain ⟨A2, cap2, hv2⟩ := pown_form hown4
    rw [hv2] at hown4 hv4
    have H1 := Lib.hid hown4
    have H3 := Lib.hid hv4
    clear hown4 hg4 hv4 hk2 g0 g1
    rw [hv2]
    clear hv2 v4
    go_wp2_with fail
    go_end0
    have hfin := outS_put (n := n + 9 + s.size) HO1.out.1 HO1.out.2.1 HO1.out.2.2.1 HE1.out (Kept.refl _ _) HK2.out HT2.out HOB.out H1.out H3.out HR.out hrl
    have hst2 : stText st s = some (q ++ s.data.toList) := by
      have hq := HQ.out
      unfold stText text7
      cases st with
      | none => simp at hq
      | some q0 =>
        have : q0 ++ num7 s.size = q := by simpa using hq
        rw [← this]; simp
    rw [hst2]
    exact outR_trans HF1.out HK1.out hfin
  · have HOut := Lib.hid hout
    have HK := Lib.hid hk
    clear hout hk
    go_wp2_with fail
    go_end0
    have hst2 : stText st s = (st.map (· ++ num7 s.size)).map (· ++ s.data.toList) := by
      unfold stText text7
      cases st with
      | none => rfl
      | some q0 => simp
    rw [hst2]
    exact outR_trans HF1.out HK1.out ⟨rfl, F1, HOut.out _ _ HSL.out, fun k hf => .inl hf, HK.out⟩
end Go.Proofs.YtiafamacjpgjoaaGreatDoor

/- A writer of bytes, since a memory: a text more. -/
namespace Go.Proofs.YtiafamacjpgjoaaGreatDoor
open Go.RowKit Tide

section
variable {a : Nat → Addr} {W w w' : World} {F F1 : Nat → Prop} {p n : Nat} {st st' : Option (List UInt8)}
theorem PW.text (h : PW a W F p st w) (hE : Errs W a) (hA : Away a F) (s : ByteArray) (hs : s.size ≤ 65546) : Calls Tryz.prog 127 #[.pointer (some ⟨p, 0, none⟩), .string s] w (PWR a W F p (stText st s)) :=
  h.call fun F1 hO _ _ => (otext_any a w F1 p st 0 s hO hs (h.errs hE hA)).mono fun _ _ ⟨he, F2, hO2, hF2, hK2⟩ => ⟨he, F2, outS_n hO2, hF2, hK2⟩
end
end Go.Proofs.YtiafamacjpgjoaaGreatDoor

/- The bytes of a unit's records. -/
namespace Go.Proofs.YtiafamacjpgjoaaGreatDoor
open Go.RowKit Tide

abbrev recV (r : RecU) : Value := .agg #[.int .i64 (r.kind : Int), .int .i64 (r.adr : Int), .int .i64 (r.ep : Int), .string ⟨r.page.toArray⟩]
theorem num_step {q : List UInt8} {n : Nat} (h : n ≤ 4611686018427387903) : stNum (some q) (n : Int) = some (q ++ num7 n) := by
  have := stNum_ok (x := (n : Int)) (by unfold Tide.rightB; simp; omega) q
  rw [this]; rfl
theorem text_step {q : List UInt8} {l : List UInt8} : stText (some q) ⟨l.toArray⟩ = some (q ++ (num7 l.length ++ l)) := by
  have : (⟨l.toArray⟩ : ByteArray).size = l.length := by show l.toArray.size = _; simp
  unfold stText text7
  rw [this]
  simp
theorem encR_len {r : RecU} (h : GoodR r) : (encR r).length ≤ 3000 := by
  have h9 : ∀ n : Nat, n ≤ 1073741824 → (num7 n).length ≤ 9 := fun n hn => num7_len9 (by omega)
  unfold encR
  rcases h with ⟨h1, h2, h3, h4⟩ | ⟨h1, h2, h3⟩ | ⟨h1, h2⟩
  · rw [if_pos h1]
    have a1 := h9 1 (by omega); have a2 := h9 r.adr (by omega); have a3 := h9 r.page.length (by omega)
    simp only [List.length_append]; omega
  · rw [if_neg (by omega), if_pos h1]
    have a1 := h9 2 (by omega); have a2 := h9 r.adr (by omega); have a3 := h9 r.ep (by omega)
    simp only [List.length_append]; omega
  · rw [if_neg (by omega), if_neg (by omega)]
    have a1 := h9 3 (by omega); have a2 := h9 r.ep (by omega)
    simp only [List.length_append]; omega
theorem rec_facts {W1 : World} {b : Nat} {x0 x1 x2 x3 : Value} (h : W1.heap[b]? = some (.cells #[x0, x1, x2, x3] 115)) : b < W1.heap.size ∧ W1.cell? ⟨b, 0, none⟩ = some x0 ∧ W1.cell? ⟨b, 1, none⟩ = some x1 ∧ W1.cell? ⟨b, 2, none⟩ = some x2 ∧ W1.cell? ⟨b, 3, none⟩ = some x3 := by
  refine ⟨(Array.getElem?_eq_some_iff.1 h).1, by rw [cell_of_row _ _ 0 _ _ _ h]; rfl, by rw [cell_of_row _ _ 1 _ _ _ h]; rfl, by rw [cell_of_row _ _ 2 _ _ _ h]; rfl, by rw [cell_of_row _ _ 3 _ _ _ h]; rfl⟩

set_option maxRecDepth 100000 in
set_option maxHeartbeats 2000000 in
theorem rbytes1 (a : Nat → Addr) (W : World) (adr ep : Int) (page : List UInt8) (hadr : ∃ n : Nat, n ≤ 4096 ∧ adr = n) (hp : page.length ≤ 2048) (hE : Errs W a) (q : List UInt8) (hq : num7 1 ++ num7 adr.toNat ++ (num7 page.length ++ page) = q) (hl : q.length ≤ 65536) :
    Calls Tryz.prog 89 #[.agg #[.int .i64 1, .int .i64 adr, .int .i64 ep, .string ⟨page.toArray⟩]] W fun e w' => ∃ v, e = .returned (.tuple #[v, .nilIface]) ∧ w'.ownsRow W.heap.size 5 1 v q.length (u8s q) ∧ Below W.heap.size W w' := by
  have hE1 := hE.alloc (.cells #[.int .i64 1, .int .i64 adr, .int .i64 ep, .string ⟨page.toArray⟩] 115)
  have hO := outS_new a _ hE1
  have hE2 := hE1.alloc (.cells #[.slice none 0 0, .nilIface] 205)
  simp only [World.size_alloc] at hO
  have hA := hO.2.2.1
  have P0 := Lib.hid (PW.start hO)
  have HE := Lib.hid hE2
  have HA := Lib.hid hA
  have hR := rec_facts (heap_alloc_new W (.cells #[.int .i64 1, .int .i64 adr, .int .i64 ep, .string ⟨page.toArray⟩] 115))
  have B0 := Lib.hid (((Below.refl W.heap.size W).alloc (Nat.le_refl _) (.cells #[.int .i64 1, .int .i64 adr, .int .i64 ep, .string ⟨page.toArray⟩] 115)).alloc (by simp) (.cells #[.slice none 0 0, .nilIface] 205))
  have HC := Lib.hid (show ∀ i (x : Value), (W.alloc (.cells #[.int .i64 1, .int .i64 adr, .int .i64 ep, .string ⟨page.toArray⟩] 115)).cell? ⟨W.heap.size, i, none⟩ = some x → ∀ w st, PW a ((W.alloc (.cells #[.int .i64 1, .int .i64 adr, .int .i64 ep, .string ⟨page.toArray⟩] 115)).alloc (.cells #[.slice none 0 0, .nilIface] 205)) (fun k => k = W.heap.size + 1) (W.heap.size + 1) st w → w.cell? ⟨W.heap.size, i, none⟩ = some x from fun i x hx w st hp =>
    (hp.cell (by simp; omega) (by omega)).trans ((World.cell?_alloc_lt _ _ ⟨W.heap.size, i, none⟩ (by simp)).trans hx))
  have HR := Lib.hid hR
  have HQ := Lib.hid hq
  clear hE1 hO hE2 hA hR hE hq
  have hst1 : stNum (some (num7 1)) adr = some (num7 1 ++ num7 adr.toNat) := by obtain ⟨n, h, rfl⟩ := hadr; exact num_step (by omega)
  have hst2 : stText (some (num7 1 ++ num7 adr.toNat)) ⟨page.toArray⟩ = some (num7 1 ++ num7 adr.toNat ++ (num7 page.length ++ page)) := text_step
  have HS1 := Lib.hid hst1
  have HS2 := Lib.hid hst2
  clear hst1 hst2
  go_enter Tryz.func89, Tryz.ntmps89
  go_wp2_with fail
  refine (P0.out.num HE.out HA.out 1).mono ?_
  rintro e w1 ⟨rfl, hp⟩
  rw [show stNum (some []) (1 : Int) = some (num7 1) from num_step (n := 1) (by omega)] at hp
  have P1 := Lib.hid hp
  have c0 := HC.out 0 _ HR.out.2.1 _ _ hp
  have c1 := HC.out 1 _ HR.out.2.2.1 _ _ hp
  have c2 := HC.out 2 _ HR.out.2.2.2.1 _ _ hp
  have c3 := HC.out 3 _ HR.out.2.2.2.2 _ _ hp
  clear hp
  go_wp2_with fail
  refine (P1.out.num HE.out HA.out adr).mono ?_
  rintro e w2 ⟨rfl, hp⟩
  rw [HS1.out] at hp
  have P2 := Lib.hid hp
  clear c0 c1 c2 c3
  have c0 := HC.out 0 _ HR.out.2.1 _ _ hp
  have c1 := HC.out 1 _ HR.out.2.2.1 _ _ hp
  have c2 := HC.out 2 _ HR.out.2.2.2.1 _ _ hp
  have c3 := HC.out 3 _ HR.out.2.2.2.2 _ _ hp
  clear hp
  go_wp2_with fail
  refine (P2.out.text HE.out HA.out ⟨page.toArray⟩ (by show page.toArray.size ≤ _; simp; omega)).mono ?_
  rintro e w3 ⟨rfl, hp⟩
  rw [HS2.out] at hp
  have P3 := Lib.hid hp
  clear c0 c1 c2 c3
  have c0 := HC.out 0 _ HR.out.2.1 _ _ hp
  have c1 := HC.out 1 _ HR.out.2.2.1 _ _ hp
  have c2 := HC.out 2 _ HR.out.2.2.2.1 _ _ hp
  have c3 := HC.out 3 _ HR.out.2.2.2.2 _ _ hp
  clear hp
  obtain ⟨F9, hO9, hF9, hK9⟩ := P3.out
  have CD := Lib.hid (odone_ok a w3 F9 _ _ 0 hO9 (by rw [HQ.out]; exact hl))
  rw [HQ.out] at CD
  have B9 := Lib.hid (B0.out.trans (hK9.below (B := W.heap.size) (by simp; omega) (fun i hi => by rw [show i = W.heap.size + 1 from hi]; omega)))
  clear hO9 hF9 hK9
  go_wp2_with fail
  refine CD.out.mono ?_
  rintro e w9 ⟨v, rfl, ho, hb⟩
  have HO := Lib.hid (own_later ho B9.out.size)
  have B10 := Lib.hid (B9.out.trans (hb.mono B9.out.size))
  clear ho hb
  go_wp2_with fail
  go_ret2
  exact ⟨v, rfl, HO.out, B10.out⟩

set_option maxRecDepth 100000 in
set_option maxHeartbeats 2000000 in
theorem rbytes2 (a : Nat → Addr) (W : World) (adr ep : Int) (page : List UInt8) (hadr : ∃ n : Nat, n ≤ 4096 ∧ adr = n) (hep : ∃ n : Nat, n ≤ 1073741824 ∧ ep = n) (hE : Errs W a) (q : List UInt8) (hq : num7 2 ++ num7 adr.toNat ++ num7 ep.toNat = q) (hl : q.length ≤ 65536) :
    Calls Tryz.prog 89 #[.agg #[.int .i64 2, .int .i64 adr, .int .i64 ep, .string ⟨page.toArray⟩]] W fun e w' => ∃ v, e = .returned (.tuple #[v, .nilIface]) ∧ w'.ownsRow W.heap.size 5 1 v q.length (u8s q) ∧ Below W.heap.size W w' := by
  have hE1 := hE.alloc (.cells #[.int .i64 2, .int .i64 adr, .int .i64 ep, .string ⟨page.toArray⟩] 115)
  have hO := outS_new a _ hE1
  have hE2 := hE1.alloc (.cells #[.slice none 0 0, .nilIface] 205)
  simp only [World.size_alloc] at hO
  have hA := hO.2.2.1
  have P0 := Lib.hid (PW.start hO)
  have HE := Lib.hid hE2
  have HA := Lib.hid hA
  have hR := rec_facts (heap_alloc_new W (.cells #[.int .i64 2, .int .i64 adr, .int .i64 ep, .string ⟨page.toArray⟩] 115))
  have B0 := Lib.hid (((Below.refl W.heap.size W).alloc (Nat.le_refl _) (.cells #[.int .i64 2, .int .i64 adr, .int .i64 ep, .string ⟨page.toArray⟩] 115)).alloc (by simp) (.cells #[.slice none 0 0, .nilIface] 205))
  have HC := Lib.hid (show ∀ i (x : Value), (W.alloc (.cells #[.int .i64 2, .int .i64 adr, .int .i64 ep, .string ⟨page.toArray⟩] 115)).cell? ⟨W.heap.size, i, none⟩ = some x → ∀ w st, PW a ((W.alloc (.cells #[.int .i64 2, .int .i64 adr, .int .i64 ep, .string ⟨page.toArray⟩] 115)).alloc (.cells #[.slice none 0 0, .nilIface] 205)) (fun k => k = W.heap.size + 1) (W.heap.size + 1) st w → w.cell? ⟨W.heap.size, i, none⟩ = some x from fun i x hx w st hp =>
    (hp.cell (by simp; omega) (by omega)).trans ((World.cell?_alloc_lt _ _ ⟨W.heap.size, i, none⟩ (by simp)).trans hx))
  have HR := Lib.hid hR
  have HQ := Lib.hid hq
  clear hE1 hO hE2 hA hR hE hq
  have hst1 : stNum (some (num7 2)) adr = some (num7 2 ++ num7 adr.toNat) := by obtain ⟨n, h, rfl⟩ := hadr; exact num_step (by omega)
  have hst2 : stNum (some (num7 2 ++ num7 adr.toNat)) ep = some (num7 2 ++ num7 adr.toNat ++ num7 ep.toNat) := by obtain ⟨n, h, rfl⟩ := hep; exact num_step (by omega)
  have HS1 := Lib.hid hst1
  have HS2 := Lib.hid hst2
  clear hst1 hst2
  go_enter Tryz.func89, Tryz.ntmps89
  go_wp2_with fail
  refine (P0.out.num HE.out HA.out 2).mono ?_
  rintro e w1 ⟨rfl, hp⟩
  rw [show stNum (some []) (2 : Int) = some (num7 2) from num_step (n := 2) (by omega)] at hp
  have P1 := Lib.hid hp
  have c0 := HC.out 0 _ HR.out.2.1 _ _ hp
  have c1 := HC.out 1 _ HR.out.2.2.1 _ _ hp
  have c2 := HC.out 2 _ HR.out.2.2.2.1 _ _ hp
  have c3 := HC.out 3 _ HR.out.2.2.2.2 _ _ hp
  clear hp
  go_wp2_with fail
  refine (P1.out.num HE.out HA.out adr).mono ?_
  rintro e w2 ⟨rfl, hp⟩
  rw [HS1.out] at hp
  have P2 := Lib.hid hp
  clear c0 c1 c2 c3
  have c0 := HC.out 0 _ HR.out.2.1 _ _ hp
  have c1 := HC.out 1 _ HR.out.2.2.1 _ _ hp
  have c2 := HC.out 2 _ HR.out.2.2.2.1 _ _ hp
  have c3 := HC.out 3 _ HR.out.2.2.2.2 _ _ hp
  clear hp
  go_wp2_with fail
  refine (P2.out.num HE.out HA.out ep).mono ?_
  rintro e w3 ⟨rfl, hp⟩
  rw [HS2.out] at hp
  have P3 := Lib.hid hp
  clear c0 c1 c2 c3
  have c0 := HC.out 0 _ HR.out.2.1 _ _ hp
  have c1 := HC.out 1 _ HR.out.2.2.1 _ _ hp
  have c2 := HC.out 2 _ HR.out.2.2.2.1 _ _ hp
  have c3 := HC.out 3 _ HR.out.2.2.2.2 _ _ hp
  clear hp
  obtain ⟨F9, hO9, hF9, hK9⟩ := P3.out
  have CD := Lib.hid (odone_ok a w3 F9 _ _ 0 hO9 (by rw [HQ.out]; exact hl))
  rw [HQ.out] at CD
  have B9 := Lib.hid (B0.out.trans (hK9.below (B := W.heap.size) (by simp; omega) (fun i hi => by rw [show i = W.heap.size + 1 from hi]; omega)))
  clear hO9 hF9 hK9
  go_wp2_with fail
  refine CD.out.mono ?_
  rintro e w9 ⟨v, rfl, ho, hb⟩
  have HO := Lib.hid (own_later ho B9.out.size)
  have B10 := Lib.hid (B9.out.trans (hb.mono B9.out.size))
  clear ho hb
  go_wp2_with fail
  go_ret2
  exact ⟨v, rfl, HO.out, B10.out⟩

set_option maxRecDepth 100000 in
set_option maxHeartbeats 2000000 in
theorem rbytes3 (a : Nat → Addr) (W : World) (adr ep : Int) (page : List UInt8) (hep : ∃ n : Nat, n ≤ 1073741824 ∧ ep = n) (hE : Errs W a) (q : List UInt8) (hq : num7 3 ++ num7 ep.toNat = q) (hl : q.length ≤ 65536) :
    Calls Tryz.prog 89 #[.agg #[.int .i64 3, .int .i64 adr, .int .i64 ep, .string ⟨page.toArray⟩]] W fun e w' => ∃ v, e = .returned (.tuple #[v, .nilIface]) ∧ w'.ownsRow W.heap.size 5 1 v q.length (u8s q) ∧ Below W.heap.size W w' := by
  have hE1 := hE.alloc (.cells #[.int .i64 3, .int .i64 adr, .int .i64 ep, .string ⟨page.toArray⟩] 115)
  have hO := outS_new a _ hE1
  have hE2 := hE1.alloc (.cells #[.slice none 0 0, .nilIface] 205)
  simp only [World.size_alloc] at hO
  have hA := hO.2.2.1
  have P0 := Lib.hid (PW.start hO)
  have HE := Lib.hid hE2
  have HA := Lib.hid hA
  have hR := rec_facts (heap_alloc_new W (.cells #[.int .i64 3, .int .i64 adr, .int .i64 ep, .string ⟨page.toArray⟩] 115))
  have B0 := Lib.hid (((Below.refl W.heap.size W).alloc (Nat.le_refl _) (.cells #[.int .i64 3, .int .i64 adr, .int .i64 ep, .string ⟨page.toArray⟩] 115)).alloc (by simp) (.cells #[.slice none 0 0, .nilIface] 205))
  have HC := Lib.hid (show ∀ i (x : Value), (W.alloc (.cells #[.int .i64 3, .int .i64 adr, .int .i64 ep, .string ⟨page.toArray⟩] 115)).cell? ⟨W.heap.size, i, none⟩ = some x → ∀ w st, PW a ((W.alloc (.cells #[.int .i64 3, .int .i64 adr, .int .i64 ep, .string ⟨page.toArray⟩] 115)).alloc (.cells #[.slice none 0 0, .nilIface] 205)) (fun k => k = W.heap.size + 1) (W.heap.size + 1) st w → w.cell? ⟨W.heap.size, i, none⟩ = some x from fun i x hx w st hp =>
    (hp.cell (by simp; omega) (by omega)).trans ((World.cell?_alloc_lt _ _ ⟨W.heap.size, i, none⟩ (by simp)).trans hx))
  have HR := Lib.hid hR
  have HQ := Lib.hid hq
  clear hE1 hO hE2 hA hR hE hq
  have hst1 : stNum (some (num7 3)) ep = some (num7 3 ++ num7 ep.toNat) := by obtain ⟨n, h, rfl⟩ := hep; exact num_step (by omega)
  have HS1 := Lib.hid hst1
  clear hst1
  go_enter Tryz.func89, Tryz.ntmps89
  go_wp2_with fail
  refine (P0.out.num HE.out HA.out 3).mono ?_
  rintro e w1 ⟨rfl, hp⟩
  rw [show stNum (some []) (3 : Int) = some (num7 3) from num_step (n := 3) (by omega)] at hp
  have P1 := Lib.hid hp
  have c0 := HC.out 0 _ HR.out.2.1 _ _ hp
  have c1 := HC.out 1 _ HR.out.2.2.1 _ _ hp
  have c2 := HC.out 2 _ HR.out.2.2.2.1 _ _ hp
  have c3 := HC.out 3 _ HR.out.2.2.2.2 _ _ hp
  clear hp
  go_wp2_with fail
  refine (P1.out.num HE.out HA.out ep).mono ?_
  rintro e w2 ⟨rfl, hp⟩
  rw [HS1.out] at hp
  have P2 := Lib.hid hp
  clear c0 c1 c2 c3
  have c0 := HC.out 0 _ HR.out.2.1 _ _ hp
  have c1 := HC.out 1 _ HR.out.2.2.1 _ _ hp
  have c2 := HC.out 2 _ HR.out.2.2.2.1 _ _ hp
  have c3 := HC.out 3 _ HR.out.2.2.2.2 _ _ hp
  clear hp
  obtain ⟨F9, hO9, hF9, hK9⟩ := P2.out
  have CD := Lib.hid (odone_ok a w2 F9 _ _ 0 hO9 (by rw [HQ.out]; exact hl))
  rw [HQ.out] at CD
  have B9 := Lib.hid (B0.out.trans (hK9.below (B := W.heap.size) (by simp; omega) (fun i hi => by rw [show i = W.heap.size + 1 from hi]; omega)))
  clear hO9 hF9 hK9
  go_wp2_with fail
  refine CD.out.mono ?_
  rintro e w9 ⟨v, rfl, ho, hb⟩
  have HO := Lib.hid (own_later ho B9.out.size)
  have B10 := Lib.hid (B9.out.trans (hb.mono B9.out.size))
  clear ho hb
  go_wp2_with fail
  go_ret2
  exact ⟨v, rfl, HO.out, B10.out⟩

theorem recBytes_any (a : Nat → Addr) (W : World) (r : RecU) (hE : Errs W a) (hg : GoodR r) :
    Calls Tryz.prog 89 #[recV r] W fun e w' => ∃ v, e = .returned (.tuple #[v, .nilIface]) ∧ w'.ownsRow W.heap.size 5 1 v (encR r).length (u8s (encR r)) ∧ Below W.heap.size W w' := by
  have hl := encR_len hg
  obtain ⟨kind, adr, ep, page⟩ := r
  rcases hg with ⟨h1, h2, h3, h4⟩ | ⟨h1, h2, h3⟩ | ⟨h1, h2⟩
  · simp only at h1 h2 h3 h4
    subst h1
    exact rbytes1 a W adr ep page ⟨adr, by omega, rfl⟩ h4 hE _ (by unfold encR; rw [if_pos rfl]; rfl) (by omega)
  · simp only at h1 h2 h3
    subst h1
    exact rbytes2 a W adr ep page ⟨adr, by omega, rfl⟩ ⟨ep, h3, rfl⟩ hE _ (by unfold encR; rw [if_neg (show ¬ (2 : Nat) = 1 by decide), if_pos rfl]; rfl) (by omega)
  · simp only at h1 h2
    subst h1
    exact rbytes3 a W adr ep page ⟨ep, h2, rfl⟩ hE _ (by unfold encR; rw [if_neg (show ¬ (3 : Nat) = 1 by decide), if_neg (show ¬ (3 : Nat) = 2 by decide)]; rfl) (by omega)
end Go.Proofs.YtiafamacjpgjoaaGreatDoor
