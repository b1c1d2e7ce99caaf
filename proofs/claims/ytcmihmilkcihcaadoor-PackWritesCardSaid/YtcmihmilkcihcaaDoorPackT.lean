/- What a writer's Text, Nums and Done do. -/
import Derived.Test.YtcmihmilkcihcaaDoorPackN
import Derived.Test.YtcmihmilkcihcaaDoorClone
namespace Go.Proofs.YtcmihmilkcihcaaDoor
open Go.RowKit Tide

/-- A write behind a write. -/
theorem outR_trans {O : OutP} {W w1 w2 : World} {F F1 : Nat → Prop} {p n : Nat} {st : Option (List UInt8)} {e : Ending} (hF1 : ∀ k, F1 k → F k ∨ W.heap.size ≤ k) (hK1 : Kept F W w1) (h : OutR O w1 F1 p st n e w2) : OutR O W F p st n e w2 := by
  obtain ⟨he, F2, hO, hF2, hK2⟩ := h
  refine ⟨he, F2, hO, fun k hf => ?_, hK1.trans hK2 hF1⟩
  rcases hF2 k hf with h | h
  · exact hF1 k h
  · exact .inr (Nat.le_trans hK1.size h)
theorem outS_n {a : Nat → Addr} {W : World} {F : Nat → Prop} {p : Nat} {st : Option (List UInt8)} {n n' : Nat} (h : OutS a W F p st n) : OutS a W F p st n' := h

set_option maxHeartbeats 1000000 in
theorem otext_any (a : Nat → Addr) (W : World) (F : Nat → Prop) (p : Nat) (st : Option (List UInt8)) (n : Nat) (s : ByteArray) (h : OutS a W F p st n) (hs : s.size ≤ 65546) (hE : Errs W a) :
    Calls Tryd.prog 11 #[.pointer (some ⟨p, 0, none⟩), .string s] W (OutR (OutS a) W F p (stText st s) (n + 9 + s.size)) := by
  obtain ⟨i0, hi, hz0, hz1, hz2⟩ := info_parts infoB
  have HI := Lib.hid hi
  have H := Lib.hid h
  have HE := Lib.hid hE
  have hst : stNum st s.size = st.map (· ++ num7 s.size) := by unfold stNum; rw [if_pos (right_len (by omega))]; simp
  have cN := onum_any a W F p st n s.size h hE
  rw [hst] at cN
  have CN := Lib.hid cN
  have hsl : s.data.toList.length = s.size := by rw [Array.length_toList]; rfl
  have HSL := Lib.hid hsl
  clear hi h hE hst cN hsl
  go_enter Tryd.func11, Tryd.ntmps11
  go_wp2_with fail
  refine CN.out.mono ?_
  rintro e w1 ⟨rfl, F1, hO1, hF1, hK1⟩
  have HK1 := Lib.hid hK1
  have HF1 := Lib.hid hF1
  have HO1 := Lib.hid hO1
  have HE1 := Lib.hid (HE.out.kept hK1 H.out.2.2.1)
  clear hK1 hF1 hO1
  go_wp2_with fail
  refine (room_any a _ F1 p _ _ s.size HO1.out HE1.out).mono ?_
  rintro e w2 (⟨rfl, rfl, q, A, c, hq, hqs, htwo, hown, hob⟩ | ⟨rfl, hk, hout⟩)
  · have HT := Lib.hid htwo
    have HO := Lib.hid hown
    have HOB := Lib.hid hob
    have HQ := Lib.hid hq
    obtain ⟨hp, g0, g1, gf⟩ := htwo.facts
    clear htwo hown hob hq
    obtain ⟨r, hr⟩ : ∃ r, r = q ++ s.data.toList := ⟨_, rfl⟩
    have HR := Lib.hid hr
    have hrl : r.length ≤ 65536 := by rw [hr, List.length_append, HSL.out]; omega
    clear hr
    go_wp2_with (at_builtin; refine wpList_append_text _ rfl (.tmp 16) (.tmp 17) _ _ rfl 0 5 i0 Tryd.underlying26 Tryd.underlying9 HI.out hz0 hz1 hz2 _ q rfl HO.out s rfl r HR.out ?d1 ?d2 ?_)
    case d1 => omega
    case d2 => exact Nat.zero_le _
    intro v4 w4 hown4 hg4 hv4
    have hk2 := Kept.grown (F := fun k => (Value.slice A q.length c).ownBlock = some k) (Kept.refl _ w1) hg4 (fun k hk => .inl hk)
    have HT2 := Lib.hid (HT.out.kept hk2 (fun e => (HOB.out p e).2 rfl))
    obtain ⟨hp2, c0, c1, cf⟩ := HT2.out.facts
    have HK2 := Lib.hid hk2
    obtain ⟨A2, cap2, hv2⟩ := own_form hown4
    rw [hv2] at hown4 hv4
    have H1 := Lib.hid hown4
    have H3 := Lib.hid hv4
    clear hown4 hg4 hv4 hk2 g0 g1
    rw [hv2]
    clear hv2 v4
    go_wp2_with fail
    go_end0
    have hfin := outS_put (n := n + 9 + s.size) HO1.out.1 HO1.out.2.1 HO1.out.2.2.1 HE1.out (Kept.refl _ _) HK2.out HT2.out HOB.out H1.out H3.out HR.out hrl
    have hst2 : stText st s = some (q ++ s.data.toList) := by
      have hq := HQ.out
      unfold stText text7
      cases st with
      | none => simp at hq
      | some q0 =>
        have : q0 ++ num7 s.size = q := by simpa using hq
        rw [← this]; simp
    rw [hst2]
    exact outR_trans HF1.out HK1.out hfin
  · have HOut := Lib.hid hout
    have HK := Lib.hid hk
    clear hout hk
    go_wp2_with fail
    go_end0
    have hst2 : stText st s = (st.map (· ++ num7 s.size)).map (· ++ s.data.toList) := by
      unfold stText text7
      cases st with
      | none => rfl
      | some q0 => simp
    rw [hst2]
    exact outR_trans HF1.out HK1.out ⟨rfl, F1, HOut.out _ _ HSL.out, fun k hf => .inl hf, HK.out⟩

theorem odone_any (a : Nat → Addr) (W : World) (F : Nat → Prop) (p : Nat) (st : Option (List UInt8)) (n : Nat) (h : OutS a W F p st n) :
    Calls Tryd.prog 15 #[.pointer (some ⟨p, 0, none⟩)] W (DoneR a W F st) := by
  have herr : ∀ (v : Value) (m : Nat), m < 19 → Two W p 30 v (errAt (a m)) → doneOf st = ([], m + 1) → Calls Tryd.prog 15 #[.pointer (some ⟨p, 0, none⟩)] W (DoneR a W F st) := fun v m hm h3 hd => by
    have HD := Lib.hid hd
    obtain ⟨_, g0, g1, gf⟩ := h3.facts
    clear hd h3 h
    go_enter Tryd.func15, Tryd.ntmps15
    go_wp2_with fail
    go_quiet (fail)
    go_wp2_with fail
    go_ret2
    exact ⟨_, _, rfl, by rw [HD.out]; exact bytes_nil' _ _, by rw [HD.out]; exact isErr_at a m hm, ⟨rfl, rfl, rfl, Nat.le_refl _, fun _ _ _ => rfl⟩⟩
  obtain ⟨h1, h2, hA, v, x, h3, h4, h5⟩ := h
  cases st with
  | none =>
    obtain ⟨rfl, rfl⟩ := h5
    exact herr _ 0 (by omega) h3 rfl
  | some q =>
    by_cases hq : q.length ≤ 65536
    · rw [outV_ok a W v x hq] at h5
      obtain ⟨rfl, hown⟩ := h5
      have HD := Lib.hid (show doneOf (some q) = (q, 0) from if_pos hq)
      have cC := Lib.hid (clone_any v q W.heap.size W (Bytes.of_own hown) (Nat.le_refl _) (by omega))
      obtain ⟨A, c, rfl⟩ := own_form hown
      obtain ⟨_, g0, g1, gf⟩ := h3.facts
      clear herr hown h3 hq
      go_enter Tryd.func15, Tryd.ntmps15
      go_wp2_with fail
      refine cC.out.mono ?_
      rintro e w1 ⟨v1, rfl, ho, hb⟩
      have HO := Lib.hid ho
      have HB := Lib.hid hb
      clear ho hb
      go_wp2_with fail
      go_ret2
      exact ⟨_, _, rfl, by rw [HD.out]; exact Bytes.of_own HO.out, by rw [HD.out]; exact isErr_nil a, Kept.of_below HB.out⟩
    · rw [outV_long a W v x hq] at h5
      obtain ⟨rfl, rfl⟩ := h5
      exact herr _ 2 (by omega) h3 (if_neg hq)

theorem ints_row {w : World} {B : Nat} {v : Value} {zs : List Int} (h : Row w B v (int64s zs)) : ∃ A c, v = .slice A zs.length c ∧ ∀ j, j < zs.length → ∃ b o, A = some ⟨b, o, none⟩ ∧ b < B ∧ ∀ j (h : j < zs.length), w.cell? ⟨b, o + j, none⟩ = some (.int .i64 zs[j]) := by
  obtain ⟨_, A, c, rfl, _, _, hc⟩ := h
  refine ⟨A, c, by rw [int64s_length], fun j hj => ?_⟩
  obtain ⟨b, o, e, hb, hcell⟩ := hc (by intro e; have := int64s_length zs; rw [e] at this; simp at this; omega)
  refine ⟨b, o, e, hb, fun i hi => hcell i _ ?_⟩
  simp [int64s, hi]
theorem nums_snoc (st : Option (List UInt8)) (l : List Int) (k : Nat) (h : k < l.length) : (l.take (k + 1)).foldl stNum st = stNum ((l.take k).foldl stNum st) l[k] := by
  rw [List.take_succ_eq_append_getElem h, List.foldl_append]
  rfl

set_option maxHeartbeats 1000000 in
theorem onums_any (a : Nat → Addr) (W : World) (F : Nat → Prop) (p : Nat) (st : Option (List UInt8)) (n : Nat) (v : Value) (zs : List Int) (B : Nat) (h : OutS a W F p st n) (hv : Row W B v (int64s zs)) (hB : B ≤ W.heap.size) (hF : ∀ k, F k → B ≤ k) (hE : Errs W a) :
    Calls Tryd.prog 13 #[.pointer (some ⟨p, 0, none⟩), v] W (OutR (OutS a) W F p (stNums st zs) (n + 9 + 9 * zs.length)) := by
  have HE := Lib.hid hE
  have H := Lib.hid h
  have CN := Lib.hid (onum_any a W F p st n zs.length h hE)
  have hlen : zs.length ≤ 9223372036854775807 := by have := hv.1; rwa [int64s_length] at this
  obtain ⟨A, c, rfl, hcell⟩ := ints_row hv
  have HC := Lib.hid hcell
  have HF := Lib.hid hF
  have HBW := Lib.hid hB
  obtain ⟨st0, hst0⟩ : ∃ st0, stNum st zs.length = st0 := ⟨_, rfl⟩
  have HST := Lib.hid (show stNums st zs = zs.foldl stNum st0 by unfold stNums; rw [hst0])
  rw [hst0] at CN
  clear hE h hv hcell hF hB hst0
  go_enter Tryd.func13, Tryd.ntmps13
  go_wp2_with fail
  refine CN.out.mono ?_
  rintro e w1 ⟨rfl, F1, hO1, hF1, hK1⟩
  have S1 := Lib.hid (show ∃ F1, OutS a w1 F1 p st0 0 ∧ (∀ k, F1 k → F k ∨ W.heap.size ≤ k) ∧ Kept F W w1 from ⟨F1, hO1, hF1, hK1⟩)
  clear hO1 hF1 hK1
  go_wp2_with fail
  go_loopw [12] (fun i wr => ∃ k : Nat, i = .int .i64 k ∧ k ≤ zs.length ∧ Hid (∃ F1, OutS a wr F1 p ((zs.take k).foldl stNum st0) 0 ∧ (∀ k, F1 k → F k ∨ W.heap.size ≤ k) ∧ Kept F W wr)) (fun i _ => zs.length - (intOf i).toNat)
  case atStart => exact ⟨0, rfl, Nat.zero_le _, S1⟩
  case round =>
    obtain ⟨k, rfl, hk, hS⟩ := hrel
    by_cases hlt : k < zs.length
    · obtain ⟨b, o, rfl, hbl, hc⟩ := HC.out k hlt
      obtain ⟨F2, hO2, hF2, hK2⟩ := hS.out
      have hc1 : wr.cell? ⟨b, o + k, none⟩ = some (.int .i64 zs[k]) := (hK2.cell (p := ⟨b, o + k, none⟩) (Nat.lt_of_lt_of_le hbl HBW.out) (fun hf => by have := HF.out _ hf; exact absurd hbl (Nat.not_lt.2 this))).trans (hc k hlt)
      have hsn := nums_snoc st0 zs k hlt
      have HE2 := HE.out.kept hK2 H.out.2.2.1
      have C2 := Lib.hid (onum_any a wr F2 p _ 0 zs[k] hO2 HE2)
      rw [← hsn] at C2
      have HF2 := Lib.hid hF2
      have HK2 := Lib.hid hK2
      clear hc hsn hO2 hF2 hK2 HE2 hS
      generalize zs[k] = z at *
      go_wp2_with fail
      refine C2.out.mono ?_
      rintro e w3 hR
      obtain ⟨rfl, F3, hO3, hF3, hK3⟩ := outR_trans HF2.out HK2.out hR
      have S3 := Lib.hid (show ∃ F1, OutS a w3 F1 p ((zs.take (k + 1)).foldl stNum st0) 0 ∧ (∀ k, F1 k → F k ∨ W.heap.size ≤ k) ∧ Kept F W w3 from ⟨F3, hO3, hF3, hK3⟩)
      clear hO3 hF3 hK3 hR hc1
      go_wp2_with fail
      go_roundw
      case rel => exact ⟨k + 1, by go_num, by omega, S3⟩
      case measure => simp [intOf]; omega
    · have hall := Lib.hid (show (zs.take k).foldl stNum st0 = stNums st zs by rw [HST.out, List.take_of_length_le (by omega)])
      go_wp2_with fail
      go_end0
      obtain ⟨F2, hO2, hF2, hK2⟩ := hS.out
      exact ⟨rfl, F2, hall.out ▸ hO2, hF2, hK2⟩
/-- A writer's functions do what the laws' walks want. -/
theorem outSpec (a : Nat → Addr) : OutSpec a (OutS a) where
  lt := fun _ _ _ _ _ h => outS_lt h
  keep := fun _ _ _ _ _ _ _ h hk hd => outS_keep h hk hd
  more := fun _ _ _ _ _ _ h _ => h
  new := fun W hE => outS_new a W hE
  num := fun W F p st n x h _ _ _ hE => onum_any a W F p st n x h hE
  text := fun W F p st n s h _ hs hE => otext_any a W F p st n s h hs hE
  nums := fun W F p st n v zs B h _ hv hB hF _ _ hE => onums_any a W F p st n v zs B h hv hB hF hE
  done := fun W F p st n h _ _ => odone_any a W F p st n h
end Go.Proofs.YtcmihmilkcihcaaDoor
