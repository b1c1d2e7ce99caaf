/- All that a law wants of the package's devices. -/
import Derived.Test.YtcjneloelbgboaaDoorDkZ
namespace Go.Proofs.YtcjneloelbgboaaDoor
open Go.RowKit Tide

section
variable {W : World} {F : Nat → Prop} {p : Nat} {img now : List UInt8} {ts : List Wr} {bd cd bn cn : Nat} {vp : Value}
theorem DevB.setp {W' : World} (h : DevB W F p img now ts bd cd bn cn vp) (hK : Kept (fun k => k = p) W W') (hb : W'.heap[p]? = some (.cells #[sl bd img.length cd, sl bn img.length cn, vp, .bool false, .int .i64 0] 52)) : DevB W' F p img now ts bd cd bn cn vp :=
  { h with
    block := hb
    dur := hK.own h.dur (fun k e => by cases e; exact fun e => h.ne.1 e.symm)
    now := hK.own h.now (fun k e => by cases e; exact fun e => h.ne.2.1 e.symm)
    pend := hK.own h.pend (fun k e => (h.nep k e).1)
    wr := fun t ht => hK.own (h.wr t ht) (fun k e => by cases e; exact (h.new t ht).1)
    lt := fun k hf => Nat.lt_of_lt_of_le (h.lt k hf) hK.size }
theorem flush_any (h : DevB W F p img (flushD img (ts.map Wr.pair)) ts bd cd bn cn vp) (hr : RightD img ts) (hL : img.length ≤ 3000) (hn : ts.length ≤ 100) :
    Calls Tryd.prog 16 #[.pointer (some ⟨p, 0, none⟩)] W fun e w' => e = .returned .nilIface ∧ DevB w' F p (flushD img (ts.map Wr.pair)) (flushD img (ts.map Wr.pair)) [] bd cd bn cn (.slice none 0 0) ∧ Kept F W w' := by
  have CP := Lib.hid (power_any h)
  have CO := Lib.hid (outcome_any p 18446744073709551615 W)
  have HD := Lib.hid h
  have HR := Lib.hid hr
  clear h hr
  go_enter Tryd.func16, Tryd.ntmps16
  go_wp2_with fail
  refine CP.out.mono ?_
  rintro en w1 ⟨rfl, rfl⟩
  go_wp2_with fail
  refine CO.out.mono ?_
  rintro en w2 ⟨rfl, hb, hb2, hz⟩
  have hbd := (HD.out.dur.lt bd rfl).2
  have CS := Lib.hid (settle_any (HD.out.below hb2) HR.out hL hn true 18446744073709551615 64 (.inl ⟨rfl, rfl, rfl⟩) W.heap.size hb ⟨by omega, by omega, by omega, by omega⟩)
  have HB2 := Lib.hid (Kept.of_below (F := F) hb2)
  clear hb hb2 hz hbd
  go_wp2_with fail
  refine CS.out.mono ?_
  rintro en w3 ⟨rfl, hd, hk⟩
  have H3 := Lib.hid hd
  have K3 := Lib.hid hk
  clear hd hk CS
  go_wp2_with fail
  go_ret
  exact ⟨rfl, H3.out, HB2.out.trans K3.out (fun k hk => .inl hk)⟩
theorem crash_any (h : DevB W F p img (flushD img (ts.map Wr.pair)) ts bd cd bn cn vp) (hr : RightD img ts) (hL : img.length ≤ 3000) (hn : ts.length ≤ 100) :
    Calls Tryd.prog 17 #[.pointer (some ⟨p, 0, none⟩), .int .u64 0, .int .i64 (-1), .int .i64 0] W fun e w' => e = .returned (.tuple #[]) ∧ DevB w' F p img img [] bd cd bn cn (.slice none 0 0) ∧ Kept F W w' := by
  have CO := Lib.hid (outcome_any p 0 W)
  have HD := Lib.hid h
  have HR := Lib.hid hr
  clear h hr
  go_enter Tryd.func17, Tryd.ntmps17
  go_wp2_with fail
  refine CO.out.mono ?_
  rintro en w2 ⟨rfl, hb, hb2, hz⟩
  have hbd := (HD.out.dur.lt bd rfl).2
  have CS := Lib.hid (settle_any (HD.out.below hb2) HR.out hL hn false 0 0 (.inr ⟨rfl, rfl, rfl⟩) W.heap.size hb ⟨by omega, by omega, by omega, by omega⟩)
  have HB2 := Lib.hid (Kept.of_below (F := F) hb2)
  clear hb hb2 hz hbd
  go_wp2_with fail
  refine CS.out.mono ?_
  rintro en w3 ⟨rfl, hd, hk⟩
  obtain ⟨_, _, _, c3, c4, hf⟩ := hd.facts
  have hp := hd.plt
  have H3 := Lib.hid hd
  have K3 := Lib.hid hk
  clear hd hk CS
  go_wp2_with fail
  go_end0
  refine ⟨rfl, H3.out.setp ?_ (row_set (row_set H3.out.block _) _), ?_⟩
  · exact ((Kept.refl (fun k => k = p) w3).setCell (p := ⟨p, 3, none⟩) (.inl rfl) _).setCell (p := ⟨p, 4, none⟩) (.inl rfl) _
  · have hF := H3.out.fp.1
    exact ((HB2.out.trans K3.out (fun k hk => .inl hk)).setCell (p := ⟨p, 3, none⟩) (.inl hF) _).setCell (p := ⟨p, 4, none⟩) (.inl hF) _
theorem DevB.right0 (hr : RightD img ts) : RightD img [] := ⟨hr.1, hr.2.1, fun x hx => by cases hx⟩
end

theorem devSpec (x : Nat → Addr) : DevSpec (E3 x) (errAt (x 1)) DevS where
  keepE := fun W W' h hb => h.below hb
  lt := fun W F p img pend ⟨_, _, _, _, _, _, _, _, h⟩ => h.lt
  keep := fun W W' F G p img pend ⟨ts, bd, cd, bn, cn, vp, h1, h2, h⟩ hk hG => ⟨ts, bd, cd, bn, cn, vp, h1, h2, h.keep hk hG⟩
  new := fun W n _ h1 h6 => new_any n h1 h6 W
  from_ok := fun W v B l _ hv hB hl hne hm => from_good v B l W hv hB hl hne hm
  from_bad := fun W v B l hE hv _ hl hbad => from_wrong x v B l W hE hv hl hbad
  len := fun W F p img pend ⟨_, _, _, _, _, _, _, _, h⟩ hL => (len_any h hL).mono fun e w' ⟨he, hw⟩ => ⟨he, hw ▸ Below.refl _ _⟩
  write := fun W F p img pend i v B b ⟨ts, bd, cd, bn, cn, vp, h1, h2, h⟩ hL hn _ _ hv hB hap hb h0 hi => by
    obtain ⟨j, rfl⟩ : ∃ j : Nat, i = (j : Int) := ⟨i.toNat, by omega⟩
    rw [Int.toNat_natCast]
    subst h1
    rw [List.length_map] at hn
    refine (write_any h hL hn j (by omega) hv hB hap hb).mono ?_
    rintro e w' ⟨rfl, F', ts', vp', hd, hts, hF, hk⟩
    refine ⟨_, F', rfl, rfl, ⟨ts', bd, cd, bn, cn, vp', hts.symm, ⟨h2.1, h2.2.1, ?_⟩, ?_⟩, hF, hk⟩
    · rw [hts]
      intro y hy
      rcases List.mem_append.1 hy with hy | hy
      · exact h2.2.2 y hy
      · simp only [List.mem_singleton] at hy
        subst hy
        exact ⟨by show j < _; omega, hb⟩
    · rw [flush_snoc]
      exact hd
  write_bad := fun W F p img pend i v B b hE ⟨ts, bd, cd, bn, cn, vp, h1, h2, h⟩ hL _ _ _ hi => by
    refine (write_wrong hE h hL i hi v).mono ?_
    rintro e w' ⟨rfl, rfl⟩
    exact ⟨_, F, rfl, ⟨_, _, rfl⟩, ⟨ts, bd, cd, bn, cn, vp, h1, h2, h⟩, fun k hk => .inl hk, Kept.refl _ _⟩
  read := fun W F p img pend i ⟨ts, bd, cd, bn, cn, vp, h1, h2, h⟩ hL _ hi => by
    refine (read_any h hL i hi).mono ?_
    rintro e w' ⟨v, rfl, ho, hb⟩
    have hf : FitsD (img.length / 64) pend := by rw [h1]; exact h2.2.2
    rw [read_flush (img.length / 64) i pend hf img h2.imgs] at ho
    refine ⟨v, F, rfl, Bytes.of_own ho, fun k e hF => ?_, ⟨ts, bd, cd, bn, cn, vp, h1, h2, h.below hb⟩, fun k hk => .inl hk, Kept.of_below hb⟩
    have := (ho.lt k e).1
    have := h.lt k hF
    omega
  flush := fun W F p img pend ⟨ts, bd, cd, bn, cn, vp, h1, h2, h⟩ hL hn => by
    subst h1
    rw [List.length_map] at hn
    refine (flush_any h h2 hL hn).mono ?_
    rintro e w' ⟨rfl, hd, hk⟩
    have hl : (flushD img (ts.map Wr.pair)).length = img.length := out_len (all := true) h2
    exact ⟨_, F, rfl, rfl, ⟨[], bd, cd, bn, cn, _, rfl, ⟨by rw [hl]; exact h2.1, by rw [hl]; exact h2.2.1, fun x hx => by cases hx⟩, hd⟩, fun k hk => .inl hk, hk⟩
  crash := fun W F p img pend ⟨ts, bd, cd, bn, cn, vp, h1, h2, h⟩ hL hn => by
    subst h1
    rw [List.length_map] at hn
    refine (crash_any h h2 hL hn).mono ?_
    rintro e w' ⟨rfl, hd, hk⟩
    exact ⟨_, F, rfl, rfl, ⟨[], bd, cd, bn, cn, _, rfl, DevB.right0 h2, hd⟩, fun k hk => .inl hk, hk⟩
  image := fun W F p img pend ⟨ts, bd, cd, bn, cn, vp, h1, h2, h⟩ hL => by
    refine (image_any h hL).mono ?_
    rintro e w' ⟨v, rfl, ho, hb⟩
    exact ⟨v, F, rfl, ho, ⟨ts, bd, cd, bn, cn, vp, h1, h2, h.below hb⟩, fun k hk => .inl hk, Kept.of_below hb⟩
  pending := fun W F p img pend ⟨ts, bd, cd, bn, cn, vp, h1, h2, h⟩ => by
    refine (pending_any h).mono ?_
    rintro e w' ⟨rfl, rfl⟩
    rw [h1, List.length_map]
    exact ⟨rfl, Below.refl _ _⟩
  down := fun W F p img pend ⟨ts, bd, cd, bn, cn, vp, h1, h2, h⟩ => (down_any h).mono fun e w' ⟨he, hw⟩ => ⟨he, hw ▸ Below.refl _ _⟩
end Go.Proofs.YtcjneloelbgboaaDoor
