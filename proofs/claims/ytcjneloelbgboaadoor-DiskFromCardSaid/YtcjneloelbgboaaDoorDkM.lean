/- The law of images, walked over what a device's functions do. -/
import Derived.Test.YtcjneloelbgboaaDoorDkA
import Derived.Test.YtcjneloelbgboaaDoorRoomW
import Derived.Test.YtcjneloelbgboaaDoorNumA
import Derived.Deep.RegionHeld
namespace Go.Proofs.YtcjneloelbgboaaDoor
open Go.RowKit Tide

theorem below_dn {B : Nat} {a w : World} (h : Below B a w) (n : Nat) : Below B a (w.drewN n) := ⟨h.os, h.tape, h.output, h.size, h.block⟩
theorem at_of (z : Int) (n : Nat) (hn : 1 ≤ n) (hn2 : n ≤ 65536) : ∃ i : Nat, i < n ∧ wrap64 ((IntKind.u64.wrap z).tmod (n : Int)) = (i : Int) := by
  have h : IntKind.u64.wrap z = z % 18446744073709551616 := by
    unfold IntKind.wrap
    simp [IntKind.signed, IntKind.bits]
  rw [h]
  obtain ⟨m, hm⟩ : ∃ m : Nat, z % 18446744073709551616 = (m : Int) := ⟨(z % 18446744073709551616).toNat, by omega⟩
  rw [hm, Int.tmod_eq_emod_of_nonneg (by omega)]
  refine ⟨m % n, Nat.mod_lt _ (by omega), ?_⟩
  have h2 : ((m : Int) % (n : Int)) = ((m % n : Nat) : Int) := by simp
  rw [h2]
  have h3 : m % n < n := Nat.mod_lt _ (by omega)
  unfold wrap64
  omega
set_option maxRecDepth 100000 in
set_option maxHeartbeats 4000000 in
theorem diskFrom_law (a : Nat → Addr) (D : DevP) (hS : DevSpec (fun W => Errs W a) (errAt (a 3)) D) (v : Value) (l : List UInt8) (z : Int) (w : World) (hv : Bytes w w.heap.size v l) (hE : Errs w a) :
    Calls Tryd.prog 3 #[v, .int .i64 z] w fun en w' => en = .returned (.bool true) ∧ Below w.heap.size w w' := by
  have HS := Lib.hid hS
  have CA := Lib.hid (dalive_any _ _ D hS w hE)
  have HE := Lib.hid (fun W (h : Below w.heap.size w W) => hE.below h)
  have HV := Lib.hid (fun W (h : Below w.heap.size w W) => (hv.below h).more h.size)
  obtain ⟨A, c, rfl, _, _, _⟩ := hv.form
  clear hS hE hv
  by_cases h3 : 3000 < l.length
  · have q1 : decide ((3000 : Int) < (l.length : Int)) = true := decide_eq_true (by omega)
    clear h3
    go_enter Tryd.func3, Tryd.ntmps3
    go_wp2_with fail
    refine CA.out.mono ?_
    rintro en w1 ⟨rfl, hb⟩
    have HB := Lib.hid hb
    clear hb
    go_wp2_with fail
    go_ret
    exact ⟨rfl, HB.out⟩
  have q1 : decide ((3000 : Int) < (l.length : Int)) = false := decide_eq_false (by omega)
  go_enter Tryd.func3, Tryd.ntmps3
  go_wp2_with fail
  refine CA.out.mono ?_
  rintro en w0 ⟨rfl, hb⟩
  have HB0 := Lib.hid hb
  have CB := Lib.hid (nbytes_any _ l w0 (HV.out _ hb) (by omega))
  clear hb CA
  go_wp2_with fail
  refine CB.out.mono ?_
  rintro en w1 ⟨vi, rfl, hr, hb⟩
  have HB1 := Lib.hid (HB0.out.trans (hb.mono HB0.out.size))
  have HR := Lib.hid hr
  have hbi := hr.bytes
  clear hb CB hr
  by_cases hbad : l = [] ∨ l.length % 64 ≠ 0
  · have CF := Lib.hid (HS.out.from_bad w1 vi w1.heap.size l (HE.out _ HB1.out) hbi (Nat.le_refl _) (by omega) hbad)
    clear hbi
    have CN := Lib.hid (fun W (h : Below w.heap.size w W) => num_any a (errAt (a 3)) 4 W (HE.out W h) (isErr_at a 3 (by omega)))
    by_cases h0 : l.length = 0
    · have q2 : ((l.length : Int) == 0) = true := by simp [h0]
      clear hbad h0 h3
      go_wp2_with fail
      refine CF.out.mono ?_
      rintro en w2 ⟨rfl, hb⟩
      have HB2 := Lib.hid (HB1.out.trans (hb.mono HB1.out.size))
      clear hb CF
      go_wp2_with fail
      refine (CN.out _ HB2.out).mono ?_
      rintro en w3 ⟨rfl, hb⟩
      have HB3 := Lib.hid (HB2.out.trans (hb.mono HB2.out.size))
      clear hb
      go_wp2_with fail
      go_ret
      exact ⟨rfl, HB3.out⟩
    · have hm : l.length % 64 ≠ 0 := by
        rcases hbad with h | h
        · subst h; simp at h0
        · exact h
      have q2 : ((l.length : Int) == 0) = false := by rw [beq_eq_false_iff_ne]; omega
      have q3 : ((l.length : Int).tmod 64 == 0) = false := by
        rw [Int.tmod_eq_emod_of_nonneg (by omega)]
        rw [beq_eq_false_iff_ne]; omega
      have q5 : ((l.length : Int) % 64 != 0) = true := by rw [bne_iff_ne]; omega
      have q4 : ((l.length : Int).tmod 64 != 0) = true := by unfold bne; rw [q3]; rfl
      clear hbad h0 hm h3
      go_wp2_with fail
      refine CF.out.mono ?_
      rintro en w2 ⟨rfl, hb⟩
      have HB2 := Lib.hid (HB1.out.trans (hb.mono HB1.out.size))
      clear hb CF
      go_wp2_with fail
      refine (CN.out _ HB2.out).mono ?_
      rintro en w3 ⟨rfl, hb⟩
      have HB3 := Lib.hid (HB2.out.trans (hb.mono HB2.out.size))
      clear hb
      go_wp2_with fail
      go_ret
      exact ⟨rfl, HB3.out⟩
  · have hne : l ≠ [] := fun h => hbad (.inl h)
    have hm : l.length % 64 = 0 := by
      rcases Nat.eq_zero_or_pos (l.length % 64) with h | h
      · exact h
      · exact absurd (.inr (by omega)) hbad
    have hpos : 0 < l.length := by
      rcases l with _ | ⟨x, t⟩
      · exact absurd rfl hne
      · simp
    have CF := Lib.hid (HS.out.from_ok w1 vi w1.heap.size l (HE.out _ HB1.out) hbi (Nat.le_refl _) (by omega) hne hm)
    have q2 : ((l.length : Int) == 0) = false := by rw [beq_eq_false_iff_ne]; omega
    have q3 : ((l.length : Int).tmod 64 == 0) = true := by
      rw [Int.tmod_eq_emod_of_nonneg (by omega)]
      simp; omega
    have q5 : ((l.length : Int) % 64 != 0) = false := by
      have : ((l.length : Int) % 64) = 0 := by omega
      rw [this]; rfl
    have q4 : ((l.length : Int).tmod 64 != 0) = false := by unfold bne; rw [q3]; rfl
    obtain ⟨n, hn⟩ : ∃ n, l.length / 64 = n := ⟨_, rfl⟩
    have hn1 : 1 ≤ n := by omega
    have HLN := Lib.hid (show l.length = 64 * n from by omega)
    have HN := Lib.hid hn
    have HL3 := Lib.hid (show l.length ≤ 3000 from by omega)
    have HNE := Lib.hid hne
    clear hbi hbad hne hm hpos h3 hn
    go_wp2_with fail
    refine CF.out.mono ?_
    rintro en w2 hnw
    obtain ⟨p, rfl, hd⟩ := DS.start (Below.refl w1.heap.size w1) hnw
    have S2 := Lib.hid hd
    have UP := Lib.hid (show ∀ W, Below w1.heap.size w1 W → Below w.heap.size w W from fun W h => HB1.out.trans (h.mono HB1.out.size))
    have KS := Lib.hid (show ∀ W, Below w1.heap.size w1 W → (convert 22 9 (.slice A l.length c)).run Tryd.prog W = .ok (.string (text l)) W from fun W h => conv_bytes (HV.out W (UP.out W h)))
    have CI := Lib.hid (fun W (h : DS D w1 p l [] W) => h.call (fun F hd => HS.out.image W F p _ _ hd HL3.out))
    have CK := Lib.hid (fun W (h : Below w1.heap.size w1 W) => kept_yes vi (.slice A l.length c) l W.heap.size W ((HR.out.below h).more h.size) (HV.out W (UP.out W h)) (by have := HL3.out; omega))
    clear hnw hd CF
    have qs : ((text l).toList == (text l).toList) = true := beq_self_eq_true _
    have qs2 : ((text l).toList != (text l).toList) = false := by unfold bne; rw [qs]; rfl
    obtain ⟨tl, htl⟩ : ∃ tl, text l = tl := ⟨_, rfl⟩
    rw [htl] at KS qs qs2
    have HT := Lib.hid htl
    clear htl
    go_wp2_with fail
    go_region_held (fun W => (convert 22 9 (.slice A l.length c)).run Tryd.prog W = .ok (.string tl) W)
      (first | exact KS.out _ D3.out | exact KS.out _ (below_dn D3.out _) | exact KS.out _ (Below.drew S2.out.below) | assumption)
      (first
        | (go_at_call 9; (with_reducible refine (CI.out _ ?_).mono ?_); exact S2.out.drew HS.out; rintro en w3 ⟨v3, rfl, hb3, hd, _⟩; have S3 := Lib.hid hd; have D3 := Lib.hid hd.below; have d3 := conv_bytes hb3; rw [HT.out] at d3; clear hd hb3)
        | (go_at_call 10; (with_reducible refine (CK.out _ ?_).mono ?_); exact D3.out; rintro en w4 ⟨rfl, nn, rfl⟩))
    all_goals
      have D4 := Lib.hid (below_dn D3.out nn)
      have S4 := Lib.hid (S3.out.quiet HS.out (below_dn (Below.refl _ _) nn))
      clear qs qs2 q1 q2 q3 q4 q5 d3 CI CK
      obtain ⟨i, hi, hq⟩ := at_of z n hn1 (by have := HL3.out; have := HLN.out; omega)
      have hdn : (l.length : Int) / 64 = (n : Int) := by rw [HLN.out]; omega
      have hnz : ((n : Int) == 0) = false := by rw [beq_eq_false_iff_ne]; omega
      have hnz2 : ¬ (n : Int) = 0 := by omega
      have hlen := HLN.out
      have hsec : (sect l i).length = 64 := by
        unfold sect
        rw [List.length_take, List.length_drop]
        omega
      have CRd := Lib.hid (S4.out.read (b := sect l i) (by intro e; rw [e] at hsec; simp at hsec) (fun F hd => HS.out.read _ F p l [] i hd HL3.out (by simp) (by rw [HN.out]; exact hi)))
      obtain ⟨As, cs, ls, hls, hsl, hbs⟩ := cut_lh (HV.out w3 (UP.out _ D3.out)) (64 * i) (64 * i + 64) (64 * (i : Int)) (64 * (i : Int) + 64) rfl (by omega) (by omega) (by omega)
      have hi46 : (i : Int) ≤ 46 := by have := HL3.out; omega
      have hi0 : (0 : Int) ≤ (i : Int) := by omega
      clear hlen
      go_wp2_with fail
      refine CRd.out.mono ?_
      rintro en w5 ⟨u5, rfl, hx⟩
      have hd5 := hx.ds
      have S5 := Lib.hid hd5
      have D5 := Lib.hid hd5.below
      have hb5 := hx.bytes
      have hlsec : ls = sect l i := by
        rw [hls.out]
        unfold sect
        rw [List.drop_take]
        congr 1
        omega
      obtain ⟨ts, hts⟩ : ∃ ts, text (sect l i) = ts := ⟨_, rfl⟩
      have K1 := Lib.hid (show ∀ W, Below w5.heap.size w5 W → (convert 22 9 u5).run Tryd.prog W = .ok (.string ts) W from fun W h => by
        rw [← hts]
        exact conv_bytes (hb5.below h))
      have K2 := Lib.hid (show ∀ W, Below w1.heap.size w1 W → (convert 22 9 (.slice As ls.length cs)).run Tryd.prog W = .ok (.string ts) W from fun W h => by
        obtain ⟨A9, c9, l9, h9, hs9, hb9⟩ := cut_lh (HV.out W (UP.out _ h)) (64 * i) (64 * i + 64) (64 * (i : Int)) (64 * (i : Int) + 64) rfl (by omega) (by omega) (by have := HLN.out; omega)
        have e9 : l9 = ls := h9.out.trans hls.out.symm
        subst e9
        have e1 := hsl W
        have e2 := hs9 W
        rw [e1] at e2
        have e3 : Value.slice As l9.length cs = .slice A9 l9.length c9 := by injection e2
        rw [e3, ← hts, ← hlsec]
        exact conv_bytes hb9)
      have HTS := Lib.hid hts
      clear hx hd5 hb5 hlsec hts CRd hls hbs hsec
      have CPd := Lib.hid (fun W (h : DS D w1 p l [] W) => show Calls Tryd.prog 12 #[.pointer (some ⟨p, 0, none⟩)] W (fun e w' => e = .returned (.int .i64 0) ∧ Below W.heap.size W w') from by
        obtain ⟨F, g1, g2, g3⟩ := id h
        exact HS.out.pending _ F p _ _ g1)
      have CLn := Lib.hid (fun W (h : DS D w1 p l [] W) => show Calls Tryd.prog 13 #[.pointer (some ⟨p, 0, none⟩)] W (fun e w' => e = .returned (.int .i64 (n : Nat)) ∧ Below W.heap.size W w') from by
        obtain ⟨F, g1, g2, g3⟩ := id h
        have := HS.out.len _ F p _ _ g1 HL3.out
        rwa [HN.out] at this)
      have qs : (ts.toList == ts.toList) = true := beq_self_eq_true _
      have qn : ((n : Int) == (n : Int)) = true := beq_self_eq_true _
      have hn46 : n ≤ 46 := by have := HL3.out; have := HLN.out; omega
      have hw5 : IntKind.i64.wrap (n : Int) = (n : Int) := by simp [IntKind.wrap, IntKind.signed, IntKind.bits]; omega
      clear hn46
      have hw1 : wrap64 (64 * (i : Int)) = 64 * (i : Int) := by unfold wrap64; omega
      have hw2 : wrap64 (64 * (i : Int) + 64) = 64 * (i : Int) + 64 := by unfold wrap64; omega
      have hw3 : IntKind.i64.wrap (64 * (i : Int)) = 64 * (i : Int) := by simp [IntKind.wrap, IntKind.signed, IntKind.bits]; omega
      have hw4 : IntKind.i64.wrap (64 * (i : Int) + 64) = 64 * (i : Int) + 64 := by simp [IntKind.wrap, IntKind.signed, IntKind.bits]; omega
      go_wp2_with fail
      go_region_held (fun W => (convert 22 9 u5).run Tryd.prog W = .ok (.string ts) W ∧ (convert 22 9 (.slice As ls.length cs)).run Tryd.prog W = .ok (.string ts) W)
        (first | exact ⟨K1.out _ (Below.refl _ _).drew, K2.out _ (Below.drew D5.out)⟩ | exact ⟨K1.out _ B6.out, K2.out _ D6.out⟩ | exact ⟨K1.out _ B7.out, K2.out _ D7.out⟩ | assumption)
        (first
          | (go_at_call 12; (with_reducible refine (CPd.out _ ?_).mono ?_); exact S5.out.drew HS.out; rintro en w6 ⟨rfl, hb⟩; have S6 := Lib.hid ((S5.out.drew HS.out).quiet HS.out hb); have B6 := Lib.hid ((Below.refl w5.heap.size w5).drew.trans (hb.mono (Nat.le_refl _))); have D6 := Lib.hid (D5.out.trans (B6.out.mono D5.out.size)); clear hb)
          | (go_at_call 13; (with_reducible refine (CLn.out _ ?_).mono ?_); exact S6.out; rintro en w7 ⟨rfl, hb⟩; have B7 := Lib.hid (B6.out.trans (hb.mono B6.out.size)); have D7 := Lib.hid (D5.out.trans (B7.out.mono D5.out.size)); clear hb))
      all_goals
        go_wp2_with fail
        go_ret
        exact ⟨rfl, UP.out _ D7.out⟩
end Go.Proofs.YtcjneloelbgboaaDoor
