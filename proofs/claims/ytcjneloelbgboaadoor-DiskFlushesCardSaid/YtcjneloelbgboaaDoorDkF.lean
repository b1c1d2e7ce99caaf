/- The law of what was flushed, walked over what a device's functions do. -/
import Derived.Test.YtcjneloelbgboaaDoorDkA
import Derived.Deep.RegionHeld
namespace Go.Proofs.YtcjneloelbgboaaDoor
open Go.RowKit Tide

/-- What is done to a device. -/
structure ActD where
  kind : Int
  sec : Int
  less : Int
  byte : UInt8
  kept : Int
  torn : Int
  cut : Int
def actV (k : ActD) : List Value := [.int .i64 k.kind, .int .i64 k.sec, .int .i64 k.less, .int .u8 (k.byte.toNat : Int), .int .u64 k.kept, .int .i64 k.torn, .int .i64 k.cut]
/-- Acts that lie in memory. -/
def Acts (w : World) (B : Nat) (v : Value) (ks : List ActD) : Prop := Recs w B v 7 (ks.map actV) ∧ ∀ k ∈ ks, -9223372036854775808 ≤ k.sec ∧ k.sec ≤ 9223372036854775807
theorem Acts.form {w : World} {B : Nat} {v : Value} {ks : List ActD} (h : Acts w B v ks) : ∃ A c, v = .slice A ks.length c ∧ ks.length ≤ 9223372036854775807 ∧ ∀ i (hi : i < ks.length), ∃ b o, A = some ⟨b, o, none⟩ ∧ b < B ∧
    w.cell? ⟨b, o + i * 7, none⟩ = some (.int .i64 ks[i].kind) ∧ w.cell? ⟨b, o + i * 7 + 1, none⟩ = some (.int .i64 ks[i].sec) ∧ w.cell? ⟨b, o + i * 7 + 2, none⟩ = some (.int .i64 ks[i].less) ∧ w.cell? ⟨b, o + i * 7 + 3, none⟩ = some (.int .u8 (ks[i].byte.toNat : Int)) ∧
    w.cell? ⟨b, o + i * 7 + 4, none⟩ = some (.int .u64 ks[i].kept) ∧ w.cell? ⟨b, o + i * 7 + 5, none⟩ = some (.int .i64 ks[i].torn) ∧ w.cell? ⟨b, o + i * 7 + 6, none⟩ = some (.int .i64 ks[i].cut) ∧ -9223372036854775808 ≤ ks[i].sec ∧ ks[i].sec ≤ 9223372036854775807 := by
  obtain ⟨⟨hn, A, c, rfl, hc⟩, hz⟩ := h
  refine ⟨A, c, by rw [List.length_map], by simpa using hn, fun i hi => ?_⟩
  obtain ⟨b, o, rfl, hb, hcell⟩ := hc (by
    intro e
    have h9 : (ks.map actV).length = 0 := by rw [e]; rfl
    rw [List.length_map] at h9
    omega)
  have he : (ks.map actV)[i]? = some (actV ks[i]) := by simp [hi]
  have e : ∀ j, o + i * 7 + j = o + (i * 7 + j) := fun j => Nat.add_assoc _ _ _
  exact ⟨b, o, rfl, hb, hcell i 0 _ _ he rfl, by rw [e]; exact hcell i 1 _ _ he rfl, by rw [e]; exact hcell i 2 _ _ he rfl, by rw [e]; exact hcell i 3 _ _ he rfl, by rw [e]; exact hcell i 4 _ _ he rfl, by rw [e]; exact hcell i 5 _ _ he rfl, by rw [e]; exact hcell i 6 _ _ he rfl, hz _ (List.getElem_mem hi)⟩
/-- Writes of a device of 384 bytes. -/
def Fits (pend : List (Nat × List UInt8)) : Prop := ∀ x ∈ pend, x.1 < 6 ∧ x.2.length = 64
theorem flush_len : ∀ (pend : List (Nat × List UInt8)) (img : List UInt8), Fits pend → img.length = 384 → (flushD img pend).length = 384
  | [], _, _, h => h
  | x :: l, img, hf, h => by
    obtain ⟨h1, h2⟩ := hf x (by simp)
    refine flush_len l (putS img x) (fun y hy => hf y (by simp [hy])) ?_
    unfold putS
    simp [h, h2]
    omega
theorem fits_snoc {pend : List (Nat × List UInt8)} {i : Nat} {b : List UInt8} (h : Fits pend) (hi : i < 6) (hb : b.length = 64) : Fits (pend ++ [(i, b)]) := fun x hx => by
  rcases List.mem_append.1 hx with hx | hx
  · exact h x hx
  · simp at hx; subst hx; exact ⟨hi, hb⟩
/-- A write, in range or not: what is pending may be one more. -/
theorem DF.put {E : World → Prop} {xF : Value} {D : DevP} {w W : World} {p : Nat} {img b : List UInt8} {pend : List (Nat × List UInt8)} {n : Nat} (hS : DevSpec E xF D) {kb : Nat} (hE : E w) (h : DF D w p img pend kb W) (himg : img.length = 384) (hf : Fits pend) (hn : pend.length ≤ n) (hn2 : n ≤ 100)
    (i : Int) (h1 : -9223372036854775808 ≤ i) (h2 : i ≤ 9223372036854775807) {v : Value} {B : Nat} (hv : Bytes W B v b) (hB : B ≤ W.heap.size) (hkb : v.ownBlock = some kb) (hb : b.length = 64) :
    Calls Tryd.prog 15 #[.pointer (some ⟨p, 0, none⟩), .int .i64 i, v] W fun e W' => (∃ x, e = .returned x) ∧ W.heap.size ≤ W'.heap.size ∧ ∃ pend', DS D w p img pend' W' ∧ Fits pend' ∧ pend'.length ≤ n + 1 := by
  by_cases hr : 0 ≤ i ∧ i < 6
  · exact (h.call fun F hD hk => hS.write W F p img pend i v B b hD (by omega) (by omega) h1 h2 hv hB (fun k e => by rw [hkb] at e; cases e; exact hk) hb hr.1 (by rw [himg]; omega)).mono fun e W' ⟨x, he, _, hd, hs⟩ => ⟨⟨x, he⟩, hs, _, hd, fits_snoc hf (by omega) hb, by simp; omega⟩
  · exact (h.ds.call fun F hD => hS.write_bad W F p img pend i v B b (hS.keepE _ _ hE h.ds.below) hD (by omega) hv hB hb (by rw [himg]; omega)).mono fun e W' ⟨x, he, _, hd, hs⟩ => ⟨⟨x, he⟩, hs, _, hd, hf, by omega⟩

theorem idx_of (cut : Int) : ∃ n : Nat, n < 64 ∧ wrap64 ((IntKind.u64.wrap cut).tmod 64) = (n : Int) := by
  have h : IntKind.u64.wrap cut = cut % 18446744073709551616 := by
    unfold IntKind.wrap
    simp [IntKind.signed, IntKind.bits]
  rw [h]
  obtain ⟨m, hm⟩ : ∃ m : Nat, cut % 18446744073709551616 = (m : Int) := ⟨(cut % 18446744073709551616).toNat, by omega⟩
  rw [hm, Int.tmod_eq_emod_of_nonneg (by omega)]
  refine ⟨m % 64, by omega, ?_⟩
  unfold wrap64
  omega
set_option maxRecDepth 100000 in
set_option maxHeartbeats 4000000 in
theorem diskFlushes_law (E : World → Prop) (xF : Value) (D : DevP) (hS : DevSpec E xF D) (v u : Value) (ks ms : List ActD) (w : World) (hk : Acts w w.heap.size v ks) (hm : Acts w w.heap.size u ms) (hE : E w) :
    Calls Tryd.prog 4 #[v, u] w fun en w' => en = .returned (.bool true) ∧ Below w.heap.size w w' := by
  have HS := Lib.hid hS
  have CA := Lib.hid (dalive_any E xF D hS w hE)
  have HE := Lib.hid (fun W (h : Below w.heap.size w W) => hS.keepE _ _ hE h)
  have mk := make_64
  obtain ⟨A, c, rfl, _, hcell⟩ := hk.form
  obtain ⟨A2, c2, rfl, _, hcell2⟩ := hm.form
  have HC := Lib.hid hcell
  have HC2 := Lib.hid hcell2
  clear hS hk hm hE hcell hcell2
  by_cases h1 : 50 < ks.length
  · have q1 : decide ((50 : Int) < (ks.length : Int)) = true := decide_eq_true (by omega)
    clear h1
    go_enter Tryd.func4, Tryd.ntmps4
    go_wp2_with fail
    refine CA.out.mono ?_
    rintro en w1 ⟨rfl, hb⟩
    have HB := Lib.hid hb
    clear hb
    go_wp2_with fail
    go_ret
    exact ⟨rfl, HB.out⟩
  have q1 : decide ((50 : Int) < (ks.length : Int)) = false := decide_eq_false (by omega)
  by_cases h2 : 50 < ms.length
  · have q2 : decide ((50 : Int) < (ms.length : Int)) = true := decide_eq_true (by omega)
    clear h1 h2
    go_enter Tryd.func4, Tryd.ntmps4
    go_wp2_with fail
    refine CA.out.mono ?_
    rintro en w1 ⟨rfl, hb⟩
    have HB := Lib.hid hb
    clear hb
    go_wp2_with fail
    go_ret
    exact ⟨rfl, HB.out⟩
  have q2 : decide ((50 : Int) < (ms.length : Int)) = false := decide_eq_false (by omega)
  go_enter Tryd.func4, Tryd.ntmps4
  go_wp2_with fail
  refine CA.out.mono ?_
  rintro en w1 ⟨rfl, hb⟩
  have HB1 := Lib.hid hb
  have CN := Lib.hid (HS.out.new w1 6 (HE.out _ hb) (by omega) (by omega))
  clear hb CA
  go_wp2_with fail
  refine CN.out.mono ?_
  rintro en w2 hn
  obtain ⟨p, rfl, hd⟩ := DS.start HB1.out hn
  have S2 := Lib.hid hd
  clear hn hd CN q1 q2
  go_wp2_with fail
  go_loopw [31] (fun i wr => ∃ (k : Nat) (pend : List (Nat × List UInt8)), i = .int .i64 k ∧ k ≤ ks.length ∧ Hid (DS D w p (noughts (64 * 6)) pend wr) ∧ Hid (Fits pend) ∧ Hid (pend.length ≤ k)) (fun i _ => ks.length - (intOf i).toNat)
  case atStart => exact ⟨0, [], rfl, Nat.zero_le _, S2, Lib.hid (fun x hx => by cases hx), Lib.hid (Nat.le_refl _)⟩
  case round =>
    obtain ⟨k, pend, rfl, hk, hD, hF, hP⟩ := hrel
    by_cases hlt : k < ks.length
    · obtain ⟨b, o, rfl, hbl, d0, d1, d2, d3, d4, d5, d6, z1, z2⟩ := HC.out k hlt
      have f0 := (hD.out.below.cell (p := ⟨b, o + k * 7, none⟩) hbl).trans d0
      have f1 := (hD.out.below.cell (p := ⟨b, o + k * 7 + 1, none⟩) hbl).trans d1
      have f2 := (hD.out.below.cell (p := ⟨b, o + k * 7 + 2, none⟩) hbl).trans d2
      have f3 := (hD.out.below.cell (p := ⟨b, o + k * 7 + 3, none⟩) hbl).trans d3
      have f4 := (hD.out.below.cell (p := ⟨b, o + k * 7 + 4, none⟩) hbl).trans d4
      have f5 := (hD.out.below.cell (p := ⟨b, o + k * 7 + 5, none⟩) hbl).trans d5
      have f6 := (hD.out.below.cell (p := ⟨b, o + k * 7 + 6, none⟩) hbl).trans d6
      clear d0 d1 d2 d3 d4 d5 d6
      generalize ks[k] = a at *
      obtain ⟨kind, sec, less, byte, kept, torn, cut⟩ := a
      simp only at *
      have Z1 := Lib.hid z1
      have Z2 := Lib.hid z2
      clear z1 z2
      obtain ⟨n, hn, hq⟩ := idx_of cut
      have i1 : (n : Int) < 64 := by omega
      have hs1 : (wr.alloc (.cells #[.int .i64 kind, .int .i64 sec, .int .i64 less, .int .u8 (byte.toNat : Int), .int .u64 kept, .int .i64 torn, .int .i64 cut] 42)).heap.size = wr.heap.size + 1 := by simp
      have c0 := cell64 (wr.alloc (.cells #[.int .i64 kind, .int .i64 sec, .int .i64 less, .int .u8 (byte.toNat : Int), .int .u64 kept, .int .i64 torn, .int .i64 cut] 42)) n hn
      have fz := free64 (wr.alloc (.cells #[.int .i64 kind, .int .i64 sec, .int .i64 less, .int .u8 (byte.toNat : Int), .int .u64 kept, .int .i64 torn, .int .i64 cut] 42)) n
      have hby := bytes64_set (wr.alloc (.cells #[.int .i64 kind, .int .i64 sec, .int .i64 less, .int .u8 (byte.toNat : Int), .int .u64 kept, .int .i64 torn, .int .i64 cut] 42)) n hn byte
      have DA := Lib.hid ((hD.out.alloc HS.out (.cells #[.int .i64 kind, .int .i64 sec, .int .i64 less, .int .u8 (byte.toNat : Int), .int .u64 kept, .int .i64 torn, .int .i64 cut] 42)).allocF HS.out (.cells ((madeCells #[.int .u8 0] 64).setIfInBounds n (.int .u8 (byte.toNat : Int))) 5))
      rw [hs1] at c0 fz hby
      have CW := Lib.hid (DA.out.put HS.out (HE.out _ (Below.refl _ _)) (by rw [noughts_len]) hF.out (n := k) hP.out (by omega) sec Z1.out Z2.out hby (by simp) (by simp [Value.ownBlock]) (by rw [List.length_set, noughts_len]))
      clear hby hs1
      go_wp2_with fail
      refine CW.out.mono ?_
      rintro en w4 ⟨⟨x, rfl⟩, _, pend', hd, hf, hp⟩
      have S4 := Lib.hid hd
      have F4 := Lib.hid hf
      have P4 := Lib.hid hp
      clear hd hf hp c0 fz CW DA i1 hq f0 f1 f2 f3 f4 f5 f6
      go_wp2_with fail
      go_roundw
      case rel => exact ⟨k + 1, pend', by go_num, by omega, S4, F4, P4⟩
      case measure => simp [intOf]; omega
    · have himg := flush_len pend (noughts (64 * 6)) hF.out (by rw [noughts_len])
      have CF := Lib.hid (hD.out.call (fun F hd => HS.out.flush _ F p _ _ hd (by rw [noughts_len]; omega) (Nat.le_trans hP.out (by omega))))
      generalize flushD (noughts (64 * 6)) pend = img at *
      have HI := Lib.hid himg
      clear himg mk
      go_wp2_with fail
      refine CF.out.mono ?_
      rintro en w3 ⟨_, rfl, rfl, hd, _⟩
      have S3 := Lib.hid hd
      have CI := Lib.hid (S3.out.call (fun F hd => HS.out.image _ F p _ _ hd (by rw [HI.out]; omega)))
      clear hd CF
      go_wp2_with fail
      refine CI.out.mono ?_
      rintro en w4 ⟨u4, rfl, hb4, hd, _⟩
      have S4 := Lib.hid hd
      have cv := conv_bytes hb4
      obtain ⟨Ai, ci, rfl, _, _, _⟩ := hb4.form
      have mk := make_64
      clear hd CI hb4
      obtain ⟨was, hwas⟩ : ∃ was, text img = was := ⟨_, rfl⟩
      rw [hwas] at cv
      have HW := Lib.hid hwas
      clear hwas
      go_wp2_with fail
      clear cv
      go_loopw [59] (fun i wr => ∃ (k : Nat) (pend : List (Nat × List UInt8)), i = .int .i64 k ∧ k ≤ ms.length ∧ Hid (DS D w p img pend wr) ∧ Hid (Fits pend) ∧ Hid (pend.length ≤ k)) (fun i _ => ms.length - (intOf i).toNat)
      case atStart => exact ⟨0, [], rfl, Nat.zero_le _, S4, Lib.hid (fun x hx => by cases hx), Lib.hid (Nat.le_refl _)⟩
      case round =>
        obtain ⟨k2, pend2, rfl, hk2, hD2, hF2, hP2⟩ := hrel
        by_cases hlt2 : k2 < ms.length
        · obtain ⟨b, o, rfl, hbl, d0, d1, d2, d3, d4, d5, d6, z1, z2⟩ := HC2.out k2 hlt2
          have f0 := (hD2.out.below.cell (p := ⟨b, o + k2 * 7, none⟩) hbl).trans d0
          have f1 := (hD2.out.below.cell (p := ⟨b, o + k2 * 7 + 1, none⟩) hbl).trans d1
          have f2 := (hD2.out.below.cell (p := ⟨b, o + k2 * 7 + 2, none⟩) hbl).trans d2
          have f3 := (hD2.out.below.cell (p := ⟨b, o + k2 * 7 + 3, none⟩) hbl).trans d3
          have f4 := (hD2.out.below.cell (p := ⟨b, o + k2 * 7 + 4, none⟩) hbl).trans d4
          have f5 := (hD2.out.below.cell (p := ⟨b, o + k2 * 7 + 5, none⟩) hbl).trans d5
          have f6 := (hD2.out.below.cell (p := ⟨b, o + k2 * 7 + 6, none⟩) hbl).trans d6
          clear d0 d1 d2 d3 d4 d5 d6
          generalize ms[k2] = a at *
          obtain ⟨kind, sec, less, byte, kept, torn, cut⟩ := a
          simp only at *
          have Z1 := Lib.hid z1
          have Z2 := Lib.hid z2
          clear z1 z2
          go_wp2_with fail
          have hs1 : (wr.alloc (.cells #[.int .i64 kind, .int .i64 sec, .int .i64 less, .int .u8 (byte.toNat : Int), .int .u64 kept, .int .i64 torn, .int .i64 cut] 42)).heap.size = wr.heap.size + 1 := by simp
          have hby := (bytes64 (wr.alloc (.cells #[.int .i64 kind, .int .i64 sec, .int .i64 less, .int .u8 (byte.toNat : Int), .int .u64 kept, .int .i64 torn, .int .i64 cut] 42))).drew
          have DA := Lib.hid (((hD2.out.alloc HS.out (.cells #[.int .i64 kind, .int .i64 sec, .int .i64 less, .int .u8 (byte.toNat : Int), .int .u64 kept, .int .i64 torn, .int .i64 cut] 42)).allocF HS.out (.cells (madeCells #[.int .u8 0] 64) 5)).drew HS.out)
          rw [hs1] at hby
          have CW := Lib.hid (DA.out.put (n := k2) HS.out (HE.out _ (Below.refl _ _)) HI.out hF2.out hP2.out (by omega) sec Z1.out Z2.out hby (by simp) (by simp [Value.ownBlock]) (noughts_len 64))
          clear hby hs1
          go_region_with (first
            | (go_at_call 15; (with_reducible refine CW.out.mono ?_); rintro en w5 ⟨⟨x, rfl⟩, _, pend', hd, hf, hp⟩; have S5 := Lib.hid hd; have F5 := Lib.hid hf; have P5 := Lib.hid hp; clear hd hf hp))
          all_goals
            have CI := Lib.hid (S5.out.call (fun F hd => HS.out.image _ F p _ _ hd (by rw [HI.out]; omega)))
            clear CW DA f0 f1 f2 f3 f4 f5 f6 mk
            go_wp2_with fail
            refine CI.out.mono ?_
            rintro en w6 ⟨u6, rfl, hb6, hd, _⟩
            have S6 := Lib.hid hd
            have cv := conv_bytes hb6
            rw [HW.out] at cv
            obtain ⟨Aj, cj, rfl, _, _, _⟩ := hb6.form
            have q : (was.toList == was.toList) = true := beq_self_eq_true _
            have q2 : (was.toList != was.toList) = false := by unfold bne; rw [q]; rfl
            clear hd CI hb6
            go_wp2_with fail
            have mk := make_64
            go_roundw
            case rel => exact ⟨k2 + 1, pend', by go_num, by omega, S6, F5, P5⟩
            case measure => simp [intOf]; omega
        · have CC := Lib.hid (hD2.out.call (fun F hd => HS.out.crash _ F p _ _ hd (by rw [HI.out]; omega) (Nat.le_trans hP2.out (by omega))))
          clear mk
          go_wp2_with fail
          refine CC.out.mono ?_
          rintro en w5 ⟨_, rfl, rfl, hd, _⟩
          have S5 := Lib.hid hd
          have CI := Lib.hid (S5.out.call (fun F hd => HS.out.image _ F p _ _ hd (by rw [HI.out]; omega)))
          clear hd CC
          go_wp2_with fail
          refine CI.out.mono ?_
          rintro en w6 ⟨u6, rfl, hb6, hd, _⟩
          have S6 := Lib.hid hd
          have cv := conv_bytes hb6
          rw [HW.out] at cv
          obtain ⟨Aj, cj, rfl, _, _, _⟩ := hb6.form
          have q : (was.toList == was.toList) = true := beq_self_eq_true _
          have CP := Lib.hid (show Calls Tryd.prog 12 #[.pointer (some ⟨p, 0, none⟩)] w6 (fun e w' => e = .returned (.int .i64 0) ∧ DS D w p img [] w') from by
            obtain ⟨F, h1, h2, h3⟩ := id hd
            exact (HS.out.pending _ F p _ _ h1).mono fun e w' ⟨he, hb⟩ => ⟨he, hd.quiet HS.out hb⟩)
          clear hd CI hb6
          go_wp2_with fail
          refine CP.out.mono ?_
          rintro en w7 ⟨rfl, hd⟩
          have S7 := Lib.hid hd
          have CD := Lib.hid (show Calls Tryd.prog 18 #[.pointer (some ⟨p, 0, none⟩)] w7 (fun e w' => e = .returned (.bool false) ∧ Below w.heap.size w w') from by
            obtain ⟨F, h1, h2, h3⟩ := id hd
            exact (HS.out.down _ F p _ _ h1).mono fun e w' ⟨he, hb⟩ => ⟨he, h3.trans (hb.mono h3.size)⟩)
          clear hd CP
          go_wp2_with fail
          refine CD.out.mono ?_
          rintro en w8 ⟨rfl, hb⟩
          have HB8 := Lib.hid hb
          clear hb CD
          go_wp2_with fail
          go_ret
          exact ⟨rfl, HB8.out⟩
end Go.Proofs.YtcjneloelbgboaaDoor
