/- What a writer's Num does: a number's bytes behind what is written, or an error. -/
import Derived.Test.YtefcbofjndnpkaaDoorGPackO
import Derived.Test.YtefcbofjndnpkaaDoorGBits7
import Derived.Test.YtefcbofjndnpkaaDoorGAppS
import Derived.Test.YtefcbofjndnpkaaDoorGTwo
import Derived.Test.YtefcbofjndnpkaaDoorGClone
import Derived.Deep.RegionLaw
import Derived.Outline
namespace Go.Proofs.YtefcbofjndnpkaaDoor
open Go.RowKit Tide

/-- A writer behind an append that is stored. -/
theorem outS_put {a : Nat → Addr} {W U w2 : World} {F : Nat → Prop} {p : Nat} {q t r : List UInt8} {v v' x : Value} (hp : F p) (hF : ∀ k, F k → k < W.heap.size) (hA : Away a F) (hE : Errs W a) (hWU : Kept F W U) (hU2 : Kept (fun k => v.ownBlock = some k) U w2)
    (hT : Two w2 p 81 x .nilIface) (hv : ∀ k, v.ownBlock = some k → F k ∧ k ≠ p) (h1 : w2.ownsRow 0 5 1 v' r.length (u8s r)) (h3 : v'.ownBlock = v.ownBlock ∨ v'.ownBlock = some U.heap.size) (hr : r = q ++ t) (hl : r.length ≤ 65536) (n : Nat) :
    OutR (OutS a) W F p (some (q ++ t)) n (.returned (.tuple #[])) (w2.setCell ⟨p, 0, none⟩ v') := by
  subst hr
  have hs := hWU.size
  have hpl := hF p hp
  have hne : ∀ k, v'.ownBlock = some k → (F k ∨ k = U.heap.size) ∧ k ≠ p := fun k hk => by
    rcases h3 with e | e
    · exact ⟨.inl (hv k (e ▸ hk)).1, (hv k (e ▸ hk)).2⟩
    · rw [e] at hk
      injection hk with hk
      exact ⟨.inr hk.symm, by omega⟩
  have hk3 : Kept (fun k => k = p) w2 (w2.setCell ⟨p, 0, none⟩ v') := (Kept.refl (fun k => k = p) w2).setCell (p := ⟨p, 0, none⟩) (.inl rfl) _
  have hW2 : Kept F W (w2.setCell ⟨p, 0, none⟩ v') := (hWU.trans hU2 (fun i hi => .inl (hv i hi).1)).trans hk3 (fun i hi => by subst hi; exact .inl hp)
  refine ⟨rfl, fun k => F k ∨ (W.heap.size ≤ k ∧ k < (w2.setCell ⟨p, 0, none⟩ v').heap.size), ⟨.inl hp, fun k hf => ?_, hA.more hE (fun k hf => hf.imp id And.left), v', .nilIface, hT.setA v', fun k hkk => ?_, (outV_ok a _ _ _ hl).2 ⟨rfl, hk3.own h1 (fun k hk => (hne k hk).2)⟩⟩, fun k hf => ?_, hW2⟩
  · rcases hf with hf | hf
    · exact Nat.lt_of_lt_of_le (hF k hf) hW2.size
    · exact hf.2
  · refine ⟨?_, (hne k hkk).2⟩
    rcases (hne k hkk).1 with h | h
    · exact .inl h
    · have := (h1.lt k hkk).2
      have e2 : (w2.setCell ⟨p, 0, none⟩ v').heap.size = w2.heap.size := by simp
      exact .inr ⟨by omega, by omega⟩
  · rcases hf with hf | hf
    · exact .inl hf
    · exact .inr hf.1

theorem arr9 : Tryd.prog.arrayLen 107 = 9 := by kernel_rfl
theorem arrT : Tryd.prog.underlying 107 = some (.array (Tryd.prog.arrayLen 107) (Tryd.prog.elem 107)) := by kernel_rfl
theorem arrS (w : World) : (Go.sizeOf (Tryd.prog.elem 107)).run Tryd.prog w = .ok 1 w := by kernel_rfl
/-- The first bytes of the array. -/
theorem cut9 (g k : Nat) (hk : k + 1 ≤ 9) (W : World) : (Instr.sliceAt 107 (.pointer (some ⟨g, 0, none⟩)) none (some (.int .i64 ((k : Int) + 1))) none).run Tryd.prog W = .ok (.slice (some ⟨g, 0, none⟩) (k + 1) 9) W := by
  rw [run_sliceAt_array_h W _ _ arrT _ _ (by omega) (by rw [arr9]; omega), arrS, arr9]
  have e : ((k : Int) + 1).toNat = k + 1 := by omega
  simp only [Result.andThen, slicedAt, e]
  rw [if_neg (by omega)]
  simp [Addr.add]

set_option maxRecDepth 100000 in
set_option maxHeartbeats 2000000 in
theorem onum_good (a : Nat → Addr) (W : World) (F : Nat → Prop) (p : Nat) (st : Option (List UInt8)) (n : Nat) (m : Nat) (h : OutS a W F p st n) (hm : m ≤ 4611686018427387903) (hE : Errs W a) :
    Calls Tryd.prog 33 #[.pointer (some ⟨p, 0, none⟩), .int .i64 m] W (OutR (OutS a) W F p (st.map (· ++ num7 m)) (n + 9)) := by
  obtain ⟨i0, hi, hz0, hz1, hz2⟩ := info_parts infoB
  have HI := Lib.hid hi
  have hq1 : decide ((m : Int) < 0) = false := by simp
  have hq2 : decide ((4611686018427387903 : Int) < (m : Int)) = false := by simp; omega
  have H := Lib.hid h
  have HE := Lib.hid hE
  have D0 := Lib.hid (Digits.start W 107)
  have HM := Lib.hid hm
  clear h hE hi hm
  go_enter Tryd.func33, Tryd.ntmps33
  go_wp2_with fail
  clear hq1 hq2
  go_loopw [1, 5] (fun u s wr => ∃ (m' k : Nat) (ds : List UInt8), u = .int .i64 m' ∧ s = .int .i64 k ∧ m' ≤ m ∧ Hid (ds.length = k ∧ num7 m = ds ++ num7 m') ∧ Digits W W.heap.size 107 ds wr) (fun u _ _ => (intOf u).toNat)
  case atStart => exact ⟨m, 0, [], rfl, rfl, Nat.le_refl _, Lib.hid ⟨rfl, rfl⟩, D0.out⟩
  case round =>
    rename_i wr
    obtain ⟨m', k, ds, rfl, rfl, hmm, hn, hd⟩ := hrel
    have hle : m' ≤ 4611686018427387903 := Nat.le_trans hmm HM.out
    have hk8 : k ≤ 8 := by
      have h9 := num7_len9 (show m < 2 ^ 62 by have := HM.out; omega)
      rw [hn.out.2, List.length_append, hn.out.1] at h9
      have := num7_pos m'
      omega
    have HD := Lib.hid hd
    clear hd
    obtain ⟨⟨z, hz⟩, hfr⟩ := HD.out.facts k (by omega)
    have hk9 : (k : Int) < 9 := by omega
    by_cases hlt : 127 < m'
    · have hq : decide ((127 : Int) < (m' : Int)) = true := by simp; omega
      have e1 : bits .and .i64 (m' : Int) 127 = (m' : Int) % 128 := by have := i64_low7 m' (by omega); rw [this]; omega
      have e2 : bits .or .i64 ((m' : Int) % 128) 128 = (m' : Int) % 128 + 128 := by have := i64_more (m' % 128) (by omega); rw [show (m' : Int) % 128 = ((m' % 128 : Nat) : Int) by omega, this]; omega
      go_wp2_with fail
      go_roundw
      case rel => exact ⟨m' / 128, k + 1, ds ++ [UInt8.ofNat (m' % 128 + 128)], by go_num, by go_num, by omega, Lib.hid ⟨by rw [List.length_append, hn.out.1]; rfl, by rw [hn.out.2, num7_ge (by omega)]; simp⟩, HD.out.put (Nat.le_refl _) _ k hn.out.1.symm (by omega) _ (byte_high m')⟩
      case measure => simp [intOf]; omega
    · have hq : decide ((127 : Int) < (m' : Int)) = false := by simp; omega
      have D2 := Lib.hid (HD.out.put (Nat.le_refl _) (UInt8.ofNat m') k hn.out.1.symm (by omega) (m' : Int) (by rw [UInt8.toNat_ofNat_of_lt' (show m' < 256 by omega)]))
      have hfull := Lib.hid (show (ds ++ [UInt8.ofNat m']).length = k + 1 ∧ num7 m = ds ++ [UInt8.ofNat m'] from ⟨by rw [List.length_append, hn.out.1]; rfl, by rw [hn.out.2, num7_lt (by omega)]⟩)
      have HU := Lib.hid (outS_keep H.out (Kept.of_below (F := fun _ => False) D2.out.below) (fun _ _ h => h))
      have HEU := Lib.hid (HE.out.below D2.out.below)
      have cR := Lib.hid (show Calls Tryd.prog 49 #[.pointer (some ⟨p, 0, none⟩), .int .i64 ((k : Int) + 1)] _ (RoomR a _ F p st (k + 1)) from room_any a _ F p st n (k + 1) HU.out HEU.out)
      go_wp2_with fail
      clear hz hfr hq
      generalize wr.setCell ⟨W.heap.size, k, none⟩ (.int .u8 (m' : Int)) = U at *
      refine cR.out.mono ?_
      rintro e w1 (⟨rfl, rfl, q, A, c, rfl, hqs, htwo, hown, hob⟩ | ⟨rfl, hk, hout⟩)
      · have HT := Lib.hid htwo
        have HO := Lib.hid hown
        have HOB := Lib.hid hob
        obtain ⟨hp, g0, g1, gf⟩ := htwo.facts
        have hcut := cut9 W.heap.size k (by omega)
        clear htwo hown hob
        go_wp2_with fail
        go_region_law (first | (refine step_append_row _ rfl (.tmp 40) (.tmp 42) _ rfl 0 5 i0 (.int .u8 0) 1 Tryd.underlying58 HI.out hz0 hz1 hz2 rfl _ q.length (u8s q) rfl HO.out (W.heap.size + 1) _ (u8s (ds ++ [UInt8.ofNat m'])) rfl (D2.out.row (by rw [hfull.out.1]; omega) _ (Nat.lt_succ_self _) _ (by rw [hfull.out.1])) (u8s_one _) ?_ ?_ ?_ ?_; (rw [u8s_length, hfull.out.1]; unfold maxLen; omega); (rw [u8s_length, hfull.out.1]; omega); (exact Nat.zero_le _); intro v2 w2 h1 h2 h3 _; have hk2 := Kept.grown (F := fun k => (Value.slice A q.length c).ownBlock = some k) (Kept.refl _ U).drew h2 (fun k hk => .inl hk); have HT2 := Lib.hid (HT.out.kept hk2 (fun e => (HOB.out p e).2 rfl)); obtain ⟨hp2, c0, c1, cf⟩ := HT2.out.facts; have HK2 := Lib.hid hk2; obtain ⟨A2, cap2, hv2⟩ := pown_form h1; rw [hv2] at h1 h3; have H1 := Lib.hid h1; have H3 := Lib.hid h3; clear h1 h2 h3 hk2 g0 g1; rw [hv2]; clear hv2 v2))
        all_goals
          go_wp2_with fail
          go_end0
          have hl : q.length + (u8s (ds ++ [UInt8.ofNat m'])).length = (q ++ num7 m).length := by rw [u8s_length, hfull.out.2]; exact List.length_append.symm
          have hr : u8s q ++ u8s (ds ++ [UInt8.ofNat m']) = u8s (q ++ num7 m) := by rw [hfull.out.2]; exact (u8s_append _ _).symm
          rw [hl] at H1 H3 ⊢
          rw [hr] at H1
          exact outS_put H.out.1 H.out.2.1 H.out.2.2.1 HE.out (Kept.of_below D2.out.below) HK2.out HT2.out HOB.out H1.out H3.out rfl (by rw [List.length_append, hfull.out.2, hfull.out.1]; exact hqs) _
      · have HOut := Lib.hid hout
        have HK := Lib.hid hk
        clear hout hk
        go_wp2_with fail
        go_end0
        exact ⟨rfl, F, by rw [hfull.out.2]; exact HOut.out _ _ hfull.out.1, fun k hf => .inl hf, (Kept.of_below D2.out.below).trans HK.out (fun _ h => .inl h)⟩

theorem onum_bad (a : Nat → Addr) (W : World) (F : Nat → Prop) (p : Nat) (st : Option (List UInt8)) (n : Nat) (x : Int) (h : OutS a W F p st n) (hx : x < 0 ∨ 4611686018427387903 < x) (hE : Errs W a) :
    Calls Tryd.prog 33 #[.pointer (some ⟨p, 0, none⟩), .int .i64 x] W (OutR (OutS a) W F p none (n + 9)) := by
  obtain ⟨h1, h2, hA, v, y, h3, h4, h5⟩ := h
  have hg := hE.var 0 (by omega)
  simp only [evars, List.getD_cons_zero] at hg
  have hfin : ∀ (w1 : World), Two w1 p 81 (.slice none 0 0) (errAt (a 0)) → Kept (fun k => k = p) W w1 → OutR (OutS a) W F p none (n + 9) (.returned (.tuple #[])) w1 := fun w1 ht hk =>
    ⟨rfl, F, ⟨h1, fun k hf => Nat.lt_of_lt_of_le (h2 k hf) hk.size, hA, _, _, ht, fun k hk => by simp [Value.ownBlock] at hk, rfl, rfl⟩, fun k hf => .inl hf, hk.mono fun i _ hi => by subst hi; exact h1⟩
  have HF := Lib.hid hfin
  have H3 := Lib.hid h3
  clear hfin h5 h3 h4 h2 h1 hE
  rcases Int.lt_or_le x 0 with hl | hl
  · have hq : decide (x < 0) = true := by simp; omega
    clear hx
    go_enter Tryd.func33, Tryd.ntmps33
    go_wp2_with fail
    refine (fail_any _ _ (a 0) p _ H3.out).mono ?_
    rintro e w1 ⟨rfl, ht, hk⟩
    have HR := Lib.hid (HF.out w1 ht hk)
    clear ht hk
    go_wp2_with fail
    go_end0
    exact HR.out
  · have hq : decide (x < 0) = false := by simp; omega
    have hq2 : decide ((4611686018427387903 : Int) < x) = true := by simp; omega
    clear hx
    go_enter Tryd.func33, Tryd.ntmps33
    go_wp2_with fail
    refine (fail_any _ _ (a 0) p _ H3.out).mono ?_
    rintro e w1 ⟨rfl, ht, hk⟩
    have HR := Lib.hid (HF.out w1 ht hk)
    clear ht hk
    go_wp2_with fail
    go_end0
    exact HR.out
/-- Num, of every number. -/
theorem onum_any (a : Nat → Addr) (W : World) (F : Nat → Prop) (p : Nat) (st : Option (List UInt8)) (n : Nat) (x : Int) (h : OutS a W F p st n) (hE : Errs W a) :
    Calls Tryd.prog 33 #[.pointer (some ⟨p, 0, none⟩), .int .i64 x] W (OutR (OutS a) W F p (stNum st x) (n + 9)) := by
  cases hr : Tide.rightB x with
  | true =>
    have hb : 0 ≤ x ∧ x ≤ 4611686018427387903 := by unfold Tide.rightB at hr; simpa using hr
    obtain ⟨m, rfl⟩ := Int.eq_ofNat_of_zero_le hb.1
    have e : stNum st (m : Int) = st.map (· ++ num7 m) := by unfold stNum; rw [if_pos hr]; simp
    rw [e]
    exact onum_good a W F p st n m h (by omega) hE
  | false =>
    rw [stNum_bad hr]
    exact onum_bad a W F p st n x h (by unfold Tide.rightB at hr; simp at hr; omega) hE
end Go.Proofs.YtefcbofjndnpkaaDoor

/- What a writer's Done does; a write behind a write. -/
namespace Go.Proofs.YtefcbofjndnpkaaDoor
open Go.RowKit Tide

/-- A write behind a write. -/
theorem outR_trans {O : OutP} {W w1 w2 : World} {F F1 : Nat → Prop} {p n : Nat} {st : Option (List UInt8)} {e : Ending} (hF1 : ∀ k, F1 k → F k ∨ W.heap.size ≤ k) (hK1 : Kept F W w1) (h : OutR O w1 F1 p st n e w2) : OutR O W F p st n e w2 := by
  obtain ⟨he, F2, hO, hF2, hK2⟩ := h
  refine ⟨he, F2, hO, fun k hf => ?_, hK1.trans hK2 hF1⟩
  rcases hF2 k hf with h | h
  · exact hF1 k h
  · exact .inr (Nat.le_trans hK1.size h)
theorem outS_n {a : Nat → Addr} {W : World} {F : Nat → Prop} {p : Nat} {st : Option (List UInt8)} {n n' : Nat} (h : OutS a W F p st n) : OutS a W F p st n' := h

theorem odone_any (a : Nat → Addr) (W : World) (F : Nat → Prop) (p : Nat) (st : Option (List UInt8)) (n : Nat) (h : OutS a W F p st n) :
    Calls Tryd.prog 35 #[.pointer (some ⟨p, 0, none⟩)] W (DoneR a W F st) := by
  have herr : ∀ (v : Value) (m : Nat), m < 19 → Two W p 81 v (errAt (a m)) → doneOf st = ([], m + 1) → Calls Tryd.prog 35 #[.pointer (some ⟨p, 0, none⟩)] W (DoneR a W F st) := fun v m hm h3 hd => by
    have HD := Lib.hid hd
    obtain ⟨_, g0, g1, gf⟩ := h3.facts
    clear hd h3 h
    go_enter Tryd.func35, Tryd.ntmps35
    go_wp2_with fail
    go_quiet (fail)
    go_wp2_with fail
    go_ret2
    exact ⟨_, _, rfl, by rw [HD.out]; exact bytes_nil' _ _, by rw [HD.out]; exact isErr_at a m hm, ⟨rfl, rfl, rfl, Nat.le_refl _, fun _ _ _ => rfl⟩⟩
  obtain ⟨h1, h2, hA, v, x, h3, h4, h5⟩ := h
  cases st with
  | none =>
    obtain ⟨rfl, rfl⟩ := h5
    exact herr _ 0 (by omega) h3 rfl
  | some q =>
    by_cases hq : q.length ≤ 65536
    · rw [outV_ok a W v x hq] at h5
      obtain ⟨rfl, hown⟩ := h5
      have HD := Lib.hid (show doneOf (some q) = (q, 0) from if_pos hq)
      have cC := Lib.hid (clone_any v q W.heap.size W (Bytes.of_own hown) (Nat.le_refl _) (by omega))
      obtain ⟨A, c, rfl⟩ := pown_form hown
      obtain ⟨_, g0, g1, gf⟩ := h3.facts
      clear herr hown h3 hq
      go_enter Tryd.func35, Tryd.ntmps35
      go_wp2_with fail
      refine cC.out.mono ?_
      rintro e w1 ⟨v1, rfl, ho, hb⟩
      have HO := Lib.hid ho
      have HB := Lib.hid hb
      clear ho hb
      go_wp2_with fail
      go_ret2
      exact ⟨_, _, rfl, by rw [HD.out]; exact Bytes.of_own HO.out, by rw [HD.out]; exact isErr_nil a, Kept.of_below HB.out⟩
    · rw [outV_long a W v x hq] at h5
      obtain ⟨rfl, rfl⟩ := h5
      exact herr _ 2 (by omega) h3 (if_neg hq)
end Go.Proofs.YtefcbofjndnpkaaDoor

/- A writer of bytes, since a memory; what Done answers where nothing was wrong. -/
namespace Go.Proofs.YtefcbofjndnpkaaDoor
open Go.RowKit Tide

/-- A writer, since the memory W, where it had the blocks F. -/
def PW (a : Nat → Addr) (W : World) (F : Nat → Prop) (p : Nat) (st : Option (List UInt8)) (w : World) : Prop := ∃ F1, OutS a w F1 p st 0 ∧ (∀ k, F1 k → F k ∨ W.heap.size ≤ k) ∧ Kept F W w
/-- Behind a call that answers nothing. -/
def PWR (a : Nat → Addr) (W : World) (F : Nat → Prop) (p : Nat) (st : Option (List UInt8)) (e : Ending) (w : World) : Prop := e = .returned (.tuple #[]) ∧ PW a W F p st w
section
variable {a : Nat → Addr} {W w w' : World} {F F1 : Nat → Prop} {p n : Nat} {st st' : Option (List UInt8)}
theorem PW.start (h : OutS a W F p st n) : PW a W F p st W := ⟨F, outS_n h, fun _ hk => .inl hk, Kept.refl _ _⟩
theorem PW.trans (hF1 : ∀ k, F1 k → F k ∨ W.heap.size ≤ k) (hK : Kept F W w) (h : PW a w F1 p st w') : PW a W F p st w' := by
  obtain ⟨F2, hO, hF2, hK2⟩ := h
  refine ⟨F2, hO, fun k hf => ?_, hK.trans hK2 hF1⟩
  rcases hF2 k hf with h | h
  · exact hF1 k h
  · exact .inr (Nat.le_trans hK.size h)
theorem PW.call (h : PW a W F p st w) {f : FuncId} {args : Array Value} (hc : ∀ F1, OutS a w F1 p st 0 → (∀ k, F1 k → F k ∨ W.heap.size ≤ k) → Kept F W w → Calls Tryd.prog f args w (PWR a w F1 p st')) : Calls Tryd.prog f args w (PWR a W F p st') := by
  obtain ⟨F1, hO, hF1, hK⟩ := h
  exact (hc F1 hO hF1 hK).mono fun e w' ⟨he, hp⟩ => ⟨he, hp.trans hF1 hK⟩
theorem PW.alloc (h : PW a W F p st w) (o : Obj) : PW a W F p st (w.alloc o) := by
  obtain ⟨F1, hO, hF1, hK⟩ := h
  exact ⟨F1, outS_keep hO ((Kept.refl (fun _ => False) w).alloc o) (fun _ _ h => h), hF1, hK.alloc o⟩
theorem PW.errs (h : PW a W F p st w) (hE : Errs W a) (hA : Away a F) : Errs w a := by
  obtain ⟨_, _, _, hK⟩ := h
  exact hE.kept hK hA
theorem PW.size (h : PW a W F p st w) : W.heap.size ≤ w.heap.size := by
  obtain ⟨_, _, _, hK⟩ := h
  exact hK.size
theorem PW.cell (h : PW a W F p st w) {b o : Nat} (hb : b < W.heap.size) (hf : ¬ F b) : w.cell? ⟨b, o, none⟩ = W.cell? ⟨b, o, none⟩ := by
  obtain ⟨_, _, _, hK⟩ := h
  exact hK.cell (p := ⟨b, o, none⟩) hb hf
theorem PW.num (h : PW a W F p st w) (hE : Errs W a) (hA : Away a F) (z : Int) : Calls Tryd.prog 33 #[.pointer (some ⟨p, 0, none⟩), .int .i64 z] w (PWR a W F p (stNum st z)) :=
  h.call fun F1 hO _ _ => (onum_any a w F1 p st 0 z hO (h.errs hE hA)).mono fun _ _ ⟨he, F2, hO2, hF2, hK2⟩ => ⟨he, F2, outS_n hO2, hF2, hK2⟩
end

/-- What was written, told: new memory. -/
theorem odone_ok (a : Nat → Addr) (W : World) (F : Nat → Prop) (p : Nat) (q : List UInt8) (n : Nat) (h : OutS a W F p (some q) n) (hq : q.length ≤ 65536) :
    Calls Tryd.prog 35 #[.pointer (some ⟨p, 0, none⟩)] W fun e w' => ∃ v, e = .returned (.tuple #[v, .nilIface]) ∧ w'.ownsRow W.heap.size 5 1 v q.length (u8s q) ∧ Below W.heap.size W w' := by
  obtain ⟨h1, h2, hA, v, x, h3, h4, h5⟩ := h
  rw [outV_ok a W v x hq] at h5
  obtain ⟨rfl, hown⟩ := h5
  have cC := Lib.hid (clone_any v q W.heap.size W (Bytes.of_own hown) (Nat.le_refl _) (by omega))
  obtain ⟨A, c, rfl⟩ := pown_form hown
  obtain ⟨_, g0, g1, gf⟩ := h3.facts
  clear hown h3 hq h1 h2 hA h4
  go_enter Tryd.func35, Tryd.ntmps35
  go_wp2_with fail
  refine cC.out.mono ?_
  rintro e w1 ⟨v1, rfl, ho, hb⟩
  have HO := Lib.hid ho
  have HB := Lib.hid hb
  clear ho hb
  go_wp2_with fail
  go_ret2
  exact ⟨_, rfl, HO.out, HB.out⟩
end Go.Proofs.YtefcbofjndnpkaaDoor

/- What a writer's Nums does. -/
namespace Go.Proofs.YtefcbofjndnpkaaDoor
open Go.RowKit Tide

theorem ints_row {w : World} {B : Nat} {v : Value} {zs : List Int} (h : Row w B v (int64s zs)) : ∃ A c, v = .slice A zs.length c ∧ ∀ j, j < zs.length → ∃ b o, A = some ⟨b, o, none⟩ ∧ b < B ∧ ∀ j (h : j < zs.length), w.cell? ⟨b, o + j, none⟩ = some (.int .i64 zs[j]) := by
  obtain ⟨_, A, c, rfl, _, _, hc⟩ := h
  refine ⟨A, c, by rw [int64s_length], fun j hj => ?_⟩
  obtain ⟨b, o, e, hb, hcell⟩ := hc (by intro e; have := int64s_length zs; rw [e] at this; simp at this; omega)
  refine ⟨b, o, e, hb, fun i hi => hcell i _ ?_⟩
  simp [int64s, hi]
theorem nums_snoc (st : Option (List UInt8)) (l : List Int) (k : Nat) (h : k < l.length) : (l.take (k + 1)).foldl stNum st = stNum ((l.take k).foldl stNum st) l[k] := by
  rw [List.take_succ_eq_append_getElem h, List.foldl_append]
  rfl

set_option maxHeartbeats 1000000 in
theorem onums_any (a : Nat → Addr) (W : World) (F : Nat → Prop) (p : Nat) (st : Option (List UInt8)) (n : Nat) (v : Value) (zs : List Int) (B : Nat) (h : OutS a W F p st n) (hv : Row W B v (int64s zs)) (hB : B ≤ W.heap.size) (hF : ∀ k, F k → B ≤ k) (hE : Errs W a) :
    Calls Tryd.prog 34 #[.pointer (some ⟨p, 0, none⟩), v] W (OutR (OutS a) W F p (stNums st zs) (n + 9 + 9 * zs.length)) := by
  have HE := Lib.hid hE
  have H := Lib.hid h
  have CN := Lib.hid (onum_any a W F p st n zs.length h hE)
  have hlen : zs.length ≤ 9223372036854775807 := by have := hv.1; rwa [int64s_length] at this
  obtain ⟨A, c, rfl, hcell⟩ := ints_row hv
  have HC := Lib.hid hcell
  have HF := Lib.hid hF
  have HBW := Lib.hid hB
  obtain ⟨st0, hst0⟩ : ∃ st0, stNum st zs.length = st0 := ⟨_, rfl⟩
  have HST := Lib.hid (show stNums st zs = zs.foldl stNum st0 by unfold stNums; rw [hst0])
  rw [hst0] at CN
  clear hE h hv hcell hF hB hst0
  go_enter Tryd.func34, Tryd.ntmps34
  go_wp2_with fail
  refine CN.out.mono ?_
  rintro e w1 ⟨rfl, F1, hO1, hF1, hK1⟩
  have S1 := Lib.hid (show ∃ F1, OutS a w1 F1 p st0 0 ∧ (∀ k, F1 k → F k ∨ W.heap.size ≤ k) ∧ Kept F W w1 from ⟨F1, hO1, hF1, hK1⟩)
  clear hO1 hF1 hK1
  go_wp2_with fail
  go_loopw [12] (fun i wr => ∃ k : Nat, i = .int .i64 k ∧ k ≤ zs.length ∧ Hid (∃ F1, OutS a wr F1 p ((zs.take k).foldl stNum st0) 0 ∧ (∀ k, F1 k → F k ∨ W.heap.size ≤ k) ∧ Kept F W wr)) (fun i _ => zs.length - (intOf i).toNat)
  case atStart => exact ⟨0, rfl, Nat.zero_le _, S1⟩
  case round =>
    obtain ⟨k, rfl, hk, hS⟩ := hrel
    by_cases hlt : k < zs.length
    · obtain ⟨b, o, rfl, hbl, hc⟩ := HC.out k hlt
      obtain ⟨F2, hO2, hF2, hK2⟩ := hS.out
      have hc1 : wr.cell? ⟨b, o + k, none⟩ = some (.int .i64 zs[k]) := (hK2.cell (p := ⟨b, o + k, none⟩) (Nat.lt_of_lt_of_le hbl HBW.out) (fun hf => by have := HF.out _ hf; exact absurd hbl (Nat.not_lt.2 this))).trans (hc k hlt)
      have hsn := nums_snoc st0 zs k hlt
      have HE2 := HE.out.kept hK2 H.out.2.2.1
      have C2 := Lib.hid (onum_any a wr F2 p _ 0 zs[k] hO2 HE2)
      rw [← hsn] at C2
      have HF2 := Lib.hid hF2
      have HK2 := Lib.hid hK2
      clear hc hsn hO2 hF2 hK2 HE2 hS
      generalize zs[k] = z at *
      go_wp2_with fail
      refine C2.out.mono ?_
      rintro e w3 hR
      obtain ⟨rfl, F3, hO3, hF3, hK3⟩ := outR_trans HF2.out HK2.out hR
      have S3 := Lib.hid (show ∃ F1, OutS a w3 F1 p ((zs.take (k + 1)).foldl stNum st0) 0 ∧ (∀ k, F1 k → F k ∨ W.heap.size ≤ k) ∧ Kept F W w3 from ⟨F3, hO3, hF3, hK3⟩)
      clear hO3 hF3 hK3 hR hc1
      go_wp2_with fail
      go_roundw
      case rel => exact ⟨k + 1, by go_num, by omega, S3⟩
      case measure => simp [intOf]; omega
    · have hall := Lib.hid (show (zs.take k).foldl stNum st0 = stNums st zs by rw [HST.out, List.take_of_length_le (by omega)])
      go_wp2_with fail
      go_end0
      obtain ⟨F2, hO2, hF2, hK2⟩ := hS.out
      exact ⟨rfl, F2, hall.out ▸ hO2, hF2, hK2⟩
end Go.Proofs.YtefcbofjndnpkaaDoor
