/- What the document's own Cut of a span answers. -/
import Derived.Test.YtlblappalhofmaaDoorRSpanW
import Derived.Test.YtlblappalhofmaaDoorCutSW
namespace Go.Proofs.YtlblappalhofmaaDoor
open Go.RowKit Go.Shelf Tide Utf

/-- The answer of the document's cut. -/
abbrev rcutV (lo hi k : ByteArray) : Value := .tuple #[spanV (pick (cutNum lo hi k) lo) (pick (cutNum lo hi k) k), spanV (pick (cutNum lo hi k) k) (pick (cutNum lo hi k) hi), .int .i64 (cutNum lo hi k : Nat)]
theorem rcut_bad {lo hi k : ByteArray} {c : Nat} (h : cutNum lo hi k = c) (hc : c ≠ 0) : Ending.returned (.tuple #[spanV mt mt, spanV mt mt, .int .i64 (c : Nat)]) = .returned (rcutV lo hi k) := by
  unfold rcutV
  rw [h, pick1 hc, pick1 hc, pick1 hc]
theorem rcut_ok {lo hi k : ByteArray} (h : cutNum lo hi k = 0) : Ending.returned (.tuple #[spanV lo k, spanV k hi, .int .i64 0]) = .returned (rcutV lo hi k) := by
  unfold rcutV
  rw [h, pick0, pick0, pick0]
  rfl

set_option maxHeartbeats 2000000 in
theorem rcut_is (lo hi k : ByteArray) (w : World) (hlo : lo.size ≤ 65536) (hhi : hi.size ≤ 65536) (hk : k.size ≤ 65536) :
    Calls Tryd.prog 8 #[spanV lo hi, .string k] w fun e w' => e = .returned (.tuple #[spanV (pick (cutNum lo hi k) lo) (pick (cutNum lo hi k) k), spanV (pick (cutNum lo hi k) k) (pick (cutNum lo hi k) hi), .int .i64 (cutNum lo hi k : Nat)]) ∧ Below w.heap.size w w' := by
  obtain ⟨t0, t1, t2, hB⟩ := three_new w 23 (.string lo) (.string hi)
  have B0 := Lib.hid hB
  have T0 := Lib.hid t0
  have T1 := Lib.hid t1
  have T2 := Lib.hid t2
  clear t0 t1 t2 hB
  cases h1 : spanB lo hi with
  | false =>
    have HN := Lib.hid (show cutNum lo hi k = 4 by unfold cutNum; rw [h1]; rfl)
    have CB := Lib.hid (fun W => rright_is lo hi W hlo hhi false h1)
    clear h1
    go_enter Tryd.func8, Tryd.ntmps8
    go_wp2_with fail
    refine (CB.out _).mono ?_
    rintro e w1 ⟨rfl, hb⟩
    have HB1 := Lib.hid (B0.out.trans (hb.mono B0.out.size))
    have R1 := Lib.hid (T1.out.below hb T1.out.lt)
    have R2 := Lib.hid (T2.out.below hb T2.out.lt)
    obtain ⟨hc0, hc1, hf1⟩ := R1.out.facts
    obtain ⟨hd0, hd1, hf2⟩ := R2.out.facts
    clear hb
    go_wp2_with fail
    obtain ⟨e0, e1, e2, e3⟩ := put4_cells R1.out R2.out (by omega) (.string mt) (.string mt) (.string mt) (.string mt)
    exact bodyPost_ret (v := .tuple #[spanV mt mt, spanV mt mt, .int .i64 4]) (by simp [results, Tryd.results8, go_sem, e0, e1, e2, e3]) rfl ⟨rcut_bad (c := 4) HN.out (by omega), put4_below HB1.out (by omega) (by omega) _ _ _ _⟩
  | true =>
    have CB := Lib.hid (fun W => rright_is lo hi W hlo hhi true h1)
    have CK := Lib.hid (fun W => rkey_any k W hk)
    have HS := Lib.hid h1
    clear h1
    by_cases h2 : keyNum k = 0
    · rw [h2] at CK
      have hh : hasB lo hi k = inB lo hi k := by unfold hasB; rw [HS.out, decide_eq_true h2]; rfl
      have HN := Lib.hid (show cutNum lo hi k = if inB lo hi k && !decide (k = lo) then 0 else 1 by unfold cutNum; rw [if_pos HS.out, if_pos h2])
      have CI := Lib.hid (fun W => rhas_is lo hi k W hlo hhi hk (inB lo hi k) hh)
      clear h2 hh
      go_enter Tryd.func8, Tryd.ntmps8
      go_wp2_with fail
      refine (CB.out _).mono ?_
      rintro e w1 ⟨rfl, hb⟩
      have HB1 := Lib.hid (B0.out.trans (hb.mono B0.out.size))
      have R0 := Lib.hid (T0.out.below hb T0.out.lt)
      have R1 := Lib.hid (T1.out.below hb T1.out.lt)
      have R2 := Lib.hid (T2.out.below hb T2.out.lt)
      clear hb
      go_wp2_with fail
      refine (CK.out _).mono ?_
      rintro e w2 ⟨rfl, hb⟩
      have HB2 := Lib.hid (HB1.out.trans (hb.mono HB1.out.size))
      have S0 := Lib.hid (R0.out.below hb R0.out.lt)
      have S1 := Lib.hid (R1.out.below hb R1.out.lt)
      have S2 := Lib.hid (R2.out.below hb R2.out.lt)
      obtain ⟨hz0, hz1, hfz⟩ := S0.out.facts
      clear hb
      go_wp2_with fail
      refine (CI.out _).mono ?_
      rintro e w3 ⟨rfl, hb⟩
      have HB3 := Lib.hid (HB2.out.trans (hb.mono HB2.out.size))
      have U1 := Lib.hid (S1.out.below hb S1.out.lt)
      have U2 := Lib.hid (S2.out.below hb S2.out.lt)
      obtain ⟨hc0, hc1, hf1⟩ := U1.out.facts
      obtain ⟨hd0, hd1, hf2⟩ := U2.out.facts
      clear hz0 hz1 hfz
      obtain ⟨hz0, hz1, hfz⟩ := (S0.out.below hb S0.out.lt).facts
      clear hb
      cases hI : inB lo hi k with
      | false =>
        have HC := Lib.hid (show cutNum lo hi k = 1 by rw [HN.out, hI]; rfl)
        clear hI
        go_wp2_with fail
        obtain ⟨e0, e1, e2, e3⟩ := put4_cells U1.out U2.out (by omega) (.string mt) (.string mt) (.string mt) (.string mt)
        exact bodyPost_ret (v := .tuple #[spanV mt mt, spanV mt mt, .int .i64 1]) (by simp [results, Tryd.results8, go_sem, e0, e1, e2, e3]) rfl ⟨rcut_bad (c := 1) HC.out (by omega), put4_below HB3.out (by omega) (by omega) _ _ _ _⟩
      | true =>
        by_cases hkl : k = lo
        · have HC := Lib.hid (show cutNum lo hi k = 1 by rw [HN.out, hI, decide_eq_true hkl]; rfl)
          have q : (k.toList == lo.toList) = true := by rw [hkl]; exact beq_self_eq_true _
          clear hI hkl
          go_wp2_with fail
          obtain ⟨e0, e1, e2, e3⟩ := put4_cells U1.out U2.out (by omega) (.string mt) (.string mt) (.string mt) (.string mt)
          exact bodyPost_ret (v := .tuple #[spanV mt mt, spanV mt mt, .int .i64 1]) (by simp [results, Tryd.results8, go_sem, e0, e1, e2, e3]) rfl ⟨rcut_bad (c := 1) HC.out (by omega), put4_below HB3.out (by omega) (by omega) _ _ _ _⟩
        · have HC := Lib.hid (show cutNum lo hi k = 0 by rw [HN.out, hI, decide_eq_false hkl]; rfl)
          have q : (k.toList == lo.toList) = false := by
            rw [beq_eq_false_iff_ne]
            exact fun h => hkl (bytes_ext (by rw [← Lib.toList_data, ← Lib.toList_data, h]))
          clear hI hkl
          go_wp2_with fail
          go_region
          go_wp2_with fail
          obtain ⟨e0, e1, e2, e3⟩ := put4_cells U1.out U2.out (by omega) (.string lo) (.string k) (.string k) (.string hi)
          exact bodyPost_ret (v := .tuple #[spanV lo k, spanV k hi, .int .i64 0]) (by simp [results, Tryd.results8, go_sem, e0, e1, e2, e3]) rfl ⟨rcut_ok HC.out, (put4_below HB3.out (by omega) (by omega) _ _ _ _).drew⟩
    · have HN := Lib.hid (show cutNum lo hi k = keyNum k by unfold cutNum; rw [if_pos HS.out, if_neg h2])
      have H2 := Lib.hid h2
      have q : ((keyNum k : Int) == 0) = false := by rw [beq_eq_false_iff_ne]; omega
      have q2 : ((keyNum k : Int) != 0) = true := by rw [bne_iff_ne]; omega
      clear h2
      generalize keyNum k = n at *
      go_enter Tryd.func8, Tryd.ntmps8
      go_wp2_with fail
      refine (CB.out _).mono ?_
      rintro e w1 ⟨rfl, hb⟩
      have HB1 := Lib.hid (B0.out.trans (hb.mono B0.out.size))
      have R1 := Lib.hid (T1.out.below hb T1.out.lt)
      have R2 := Lib.hid (T2.out.below hb T2.out.lt)
      clear hb
      go_wp2_with fail
      refine (CK.out _).mono ?_
      rintro e w2 ⟨rfl, hb⟩
      have HB2 := Lib.hid (HB1.out.trans (hb.mono HB1.out.size))
      have S1 := Lib.hid (R1.out.below hb R1.out.lt)
      have S2 := Lib.hid (R2.out.below hb R2.out.lt)
      obtain ⟨hc0, hc1, hf1⟩ := S1.out.facts
      obtain ⟨hd0, hd1, hf2⟩ := S2.out.facts
      clear hb
      go_wp2_with fail
      obtain ⟨e0, e1, e2, e3⟩ := put4_cells S1.out S2.out (by omega) (.string mt) (.string mt) (.string mt) (.string mt)
      exact bodyPost_ret (v := .tuple #[spanV mt mt, spanV mt mt, .int .i64 (n : Nat)]) (by simp [results, Tryd.results8, go_sem, e0, e1, e2, e3]) rfl ⟨rcut_bad HN.out H2.out, put4_below HB2.out (by omega) (by omega) _ _ _ _⟩
end Go.Proofs.YtlblappalhofmaaDoor
