/- The library's test of a text, walked over whatever its two tables hold. -/
import Derived.Test.YtcddgllckadodaaDoorGValP
import Derived.Test.YtcddgllckadodaaDoorGKeyV
import Derived.Shelf.Unicode.WordAny
import Derived.Laws.BitsAllLaws
import Derived.BigQuiet
import Derived.Deep.QuietTactic
import Derived.Deep.DeepCutAuto
import Derived.Deep.CutBlock
namespace Go.Proofs.YtcddgllckadodaaDoor
open Go.RowKit Go.Shelf Tide Utf

/-- The two tables hold f, lo, hi. -/
def TabsV (f lo hi : Nat → Nat) (w : World) : Prop :=
  (∀ c, c < 256 → w.cell? ⟨19, c, none⟩ = some (.int .u8 (f c : Nat)) ∧ f c < 256) ∧
  ∀ i, i < 16 → w.cell? ⟨20, 2 * i, none⟩ = some (.int .u8 (lo i : Nat)) ∧ w.cell? ⟨20, 2 * i + 1, none⟩ = some (.int .u8 (hi i : Nat)) ∧ lo i < 256 ∧ hi i < 256
section
variable {f lo hi : Nat → Nat} {w w' : World}
theorem TabsV.below (h : TabsV f lo hi w) (hb : Below w.heap.size w w') : TabsV f lo hi w' := by
  have lt : ∀ {a : Addr} {v : Value}, w.cell? a = some v → a.block < w.heap.size := fun hc => World.block_lt_of_cell? _ _ hc
  exact ⟨fun c hc => ⟨(hb.cell (lt (h.1 c hc).1)).trans (h.1 c hc).1, (h.1 c hc).2⟩, fun i hi2 => ⟨(hb.cell (lt (h.2 i hi2).1)).trans (h.2 i hi2).1, (hb.cell (lt (h.2 i hi2).2.1)).trans (h.2 i hi2).2.1, (h.2 i hi2).2.2⟩⟩
end
theorem word_any (t : ByteArray) (W : World) (h : 8 ≤ t.size) : Calls Tryd.prog 75 #[.string t] W fun e w' => e = .returned (.int .u64 (Lib.leNat [t.get! 0, t.get! 1, t.get! 2, t.get! 3, t.get! 4, t.get! 5, t.get! 6, t.get! 7] : Nat)) ∧ ∃ q, w' = W.drewN q := Any.utf8_word { Tryd.lays196 with } t W h
theorem get_lt (t : ByteArray) (i : Nat) (h : i < t.size) : t[i]'h = t.get! i := by
  show t[i] = t.get! i
  simp [ByteArray.get!, getElem!_pos, h]
  rfl
set_option maxRecDepth 100000 in
theorem and_7 : ∀ X : Fin 256, bits .and .u8 ((X.val : Nat) : Int) 7 = ((X.val % 8 : Nat) : Int) := by decide
/-- How long a text in a slot is. -/
def strLen : Value → Nat
  | .string t => t.size
  | _ => 0

set_option maxHeartbeats 16000000 in
set_option maxRecDepth 1000000 in
theorem validV_any (f lo hi : Nat → Nat) (s : ByteArray) (w : World) (hs : s.size ≤ 300) (hT : TabsV f lo hi w) :
    Calls Tryd.prog 74 #[.string s] w fun e w' => e = .returned (.bool (validV f lo hi s)) ∧ Below w.heap.size w w' := by
  obtain ⟨ANS, hANS⟩ : ∃ ANS, validV f lo hi s = ANS := ⟨_, rfl⟩
  rw [hANS]
  have HANS := Lib.hid hANS
  have HT := Lib.hid hT
  clear hANS hT
  go_enter Tryd.func74, Tryd.ntmps74
  go_wp2_with fail
  go_loopw [0] (fun s0 wr => ∃ t : ByteArray, s0 = .string t ∧ t.size ≤ 300 ∧ Hid (validV f lo hi t = ANS) ∧ Hid (Below w.heap.size w wr)) (fun s0 _ => strLen s0)
  case atStart => exact ⟨s, rfl, hs, HANS, Lib.hid (Below.refl _ _)⟩
  case round =>
    obtain ⟨t, rfl, hts, hv, hb⟩ := hrel
    by_cases h0 : 0 < t.size
    · have h0z : (0 : Int) < (t.size : Int) := by omega
      have hst := validV_step (f := f) (lo := lo) (hi := hi) h0
      rw [hv.out] at hst
      have hs0 := get_lt t 0 h0
      have hx0lt : (t.get! 0).toNat < 256 := (t.get! 0).toNat_lt
      by_cases hasc : (t.get! 0).toNat < 128
      · rw [if_pos hasc] at hst
        have HST := Lib.hid hst
        clear hst
        generalize hx0 : t.get! 0 = x0 at *
        generalize ht1 : t.extract 1 t.size = t1 at *
        have z1 : t1.size + 1 = t.size := by rw [← ht1, Lib.ext_size]; omega
        have hascz : (x0.toNat : Int) < 128 := by omega
        have V1 := Lib.hid (show validV f lo hi t1 = ANS from HST.out.symm)
        clear HST
        by_cases c8 : 8 < t1.size
        · have c8z : (8 : Int) < (t1.size : Int) := by omega
          have CW1 := Lib.hid (fun W => word_any t1 W (by omega))
          have kA1 := Lib.word_asc t1 (by omega)
          have lA1 := Lib.word_lt t1
          generalize Lib.leNat [t1.get! 0, t1.get! 1, t1.get! 2, t1.get! 3, t1.get! 4, t1.get! 5, t1.get! 6, t1.get! 7] = A1 at *
          have hand1 : bits .and .u64 (A1 : Int) 9259542123273814144 = ((A1 &&& 9259542123273814144 : Nat) : Int) := u64_and_nat A1 9259542123273814144 lA1 (by omega)
          generalize A1 &&& 9259542123273814144 = Z1 at *
          by_cases hz1 : Z1 = 0
          · have hz1b : ((Z1 : Int) == 0) = true := by simp [hz1]
            have V2 := Lib.hid ((validV_skip (f := f) (lo := lo) (hi := hi) 8 t1 (kA1.1 hz1)).symm.trans V1.out)
            clear kA1 hz1 V1
            generalize ht2 : t1.extract 8 t1.size = t2 at *
            have z2 : t2.size + 8 = t1.size := by rw [← ht2, Lib.ext_size]; omega
            go_wp2_with fail
            refine (CW1.out _).mono ?_
            rintro e W1 ⟨rfl, q1, rfl⟩
            have hb1 := Lib.hid (below_drawn hb.out q1)
            generalize wr.drewN q1 = wq at *
            clear CW1
            by_cases c16 : 16 < t2.size
            · have c16z : (16 : Int) < (t2.size : Int) := by omega
              have c16d : decide ((16 : Int) < (t2.size : Int)) = true := decide_eq_true c16z
              have s8z : (8 : Int) ≤ (t2.size : Int) := by omega
              have k2 := Lib.asc_add t2 8 8
              generalize ht2b : t2.extract 8 t2.size = t2b at *
              have z2b : t2b.size + 8 = t2.size := by rw [← ht2b, Lib.ext_size]; omega
              have CW2 := Lib.hid (fun W => word_any t2 W (by omega))
              have CW3 := Lib.hid (fun W => word_any t2b W (by omega))
              have kA2 := Lib.word_asc t2 (by omega)
              have kA3 := Lib.word_asc t2b (by omega)
              have lA2 := Lib.word_lt t2
              have lA3 := Lib.word_lt t2b
              generalize Lib.leNat [t2.get! 0, t2.get! 1, t2.get! 2, t2.get! 3, t2.get! 4, t2.get! 5, t2.get! 6, t2.get! 7] = A2 at *
              generalize Lib.leNat [t2b.get! 0, t2b.get! 1, t2b.get! 2, t2b.get! 3, t2b.get! 4, t2b.get! 5, t2b.get! 6, t2b.get! 7] = A3 at *
              have hor2 : bits .or .u64 (A2 : Int) (A3 : Int) = ((A2 ||| A3 : Nat) : Int) := u64_or_nat A2 A3 lA2 lA3
              have lor2 : A2 ||| A3 < 18446744073709551616 := Nat.or_lt_two_pow (n := 64) lA2 lA3
              have hand2 : bits .and .u64 ((A2 ||| A3 : Nat) : Int) 9259542123273814144 = (((A2 ||| A3) &&& 9259542123273814144 : Nat) : Int) := u64_and_nat _ 9259542123273814144 lor2 (by omega)
              have hmask := Lib.or_mask A2 A3 9259542123273814144
              generalize A2 ||| A3 = O2 at *
              have K2 := Lib.hid (show O2 &&& 9259542123273814144 = 0 → Lib.Asc t2 16 from fun h => k2 (kA2.1 (hmask.1 h).1) (kA3.1 (hmask.1 h).2))
              generalize O2 &&& 9259542123273814144 = Z2 at *
              clear k2 kA2 kA3 hmask lor2
              by_cases hz2 : Z2 = 0
              · have hz2b : ((Z2 : Int) == 0) = true := by simp [hz2]
                have V3 := Lib.hid ((validV_skip (f := f) (lo := lo) (hi := hi) 16 t2 (K2.out hz2)).symm.trans V2.out)
                have s16z : (16 : Int) ≤ (t2.size : Int) := by omega
                clear hz2 K2 V2
                generalize ht3 : t2.extract 16 t2.size = t3 at *
                have z3 : t3.size + 16 = t2.size := by rw [← ht3, Lib.ext_size]; omega
                go_wp2_with fail
                go_quiet (first | (go_at_call 75; with_reducible refine Calls.quiet_of (CW2.out _)) | (go_at_call 75; with_reducible refine Calls.quiet_of (CW3.out _)))
                have hb2 := Lib.hid (below_drawn hb1.out nq)
                generalize wq.drewN nq = wq2 at *
                clear CW2 CW3
                go_wp2_with fail
                go_loopw [0] (fun s0 wx => ∃ u : ByteArray, s0 = .string u ∧ u.size ≤ t3.size ∧ Hid (validV f lo hi u = ANS) ∧ Hid (Below w.heap.size w wx)) (fun s0 _ => strLen s0)
                case atStart => exact ⟨t3, rfl, Nat.le_refl _, V3, hb2⟩
                case round =>
                  obtain ⟨u, rfl, hut, vu, hbu⟩ := hrel
                  by_cases c32 : 32 < u.size
                  · have c32z : (32 : Int) < (u.size : Int) := by omega
                    have c32d : decide ((32 : Int) < (u.size : Int)) = true := decide_eq_true c32z
                    have s8u : (8 : Int) ≤ (u.size : Int) := by omega
                    have s16u : (16 : Int) ≤ (u.size : Int) := by omega
                    have s24u : (24 : Int) ≤ (u.size : Int) := by omega
                    have s32u : (32 : Int) ≤ (u.size : Int) := by omega
                    have k16 := Lib.asc_add u 8 8
                    have k24 := Lib.asc_add u 16 8
                    have k32 := Lib.asc_add u 24 8
                    generalize hub : u.extract 8 u.size = ub at *
                    have zub : ub.size + 8 = u.size := by rw [← hub, Lib.ext_size]; omega
                    generalize huc : u.extract 16 u.size = uc at *
                    have zuc : uc.size + 16 = u.size := by rw [← huc, Lib.ext_size]; omega
                    generalize hud : u.extract 24 u.size = ud at *
                    have zud : ud.size + 24 = u.size := by rw [← hud, Lib.ext_size]; omega
                    have CB0 := Lib.hid (fun W => word_any u W (by omega))
                    have CB1 := Lib.hid (fun W => word_any ub W (by omega))
                    have CB2 := Lib.hid (fun W => word_any uc W (by omega))
                    have CB3 := Lib.hid (fun W => word_any ud W (by omega))
                    have kB0 := Lib.word_asc u (by omega)
                    have kB1 := Lib.word_asc ub (by omega)
                    have kB2 := Lib.word_asc uc (by omega)
                    have kB3 := Lib.word_asc ud (by omega)
                    have lB0 := Lib.word_lt u
                    have lB1 := Lib.word_lt ub
                    have lB2 := Lib.word_lt uc
                    have lB3 := Lib.word_lt ud
                    generalize Lib.leNat [u.get! 0, u.get! 1, u.get! 2, u.get! 3, u.get! 4, u.get! 5, u.get! 6, u.get! 7] = B0 at *
                    generalize Lib.leNat [ub.get! 0, ub.get! 1, ub.get! 2, ub.get! 3, ub.get! 4, ub.get! 5, ub.get! 6, ub.get! 7] = B1 at *
                    generalize Lib.leNat [uc.get! 0, uc.get! 1, uc.get! 2, uc.get! 3, uc.get! 4, uc.get! 5, uc.get! 6, uc.get! 7] = B2 at *
                    generalize Lib.leNat [ud.get! 0, ud.get! 1, ud.get! 2, ud.get! 3, ud.get! 4, ud.get! 5, ud.get! 6, ud.get! 7] = B3 at *
                    have ho1 : bits .or .u64 (B0 : Int) (B1 : Int) = ((B0 ||| B1 : Nat) : Int) := u64_or_nat B0 B1 lB0 lB1
                    have ho2 : bits .or .u64 (B2 : Int) (B3 : Int) = ((B2 ||| B3 : Nat) : Int) := u64_or_nat B2 B3 lB2 lB3
                    have lo1 : B0 ||| B1 < 18446744073709551616 := Nat.or_lt_two_pow (n := 64) lB0 lB1
                    have lo2 : B2 ||| B3 < 18446744073709551616 := Nat.or_lt_two_pow (n := 64) lB2 lB3
                    have m1 := Lib.or_mask B0 B1 9259542123273814144
                    have m2 := Lib.or_mask B2 B3 9259542123273814144
                    generalize B0 ||| B1 = P1 at *
                    generalize B2 ||| B3 = P2 at *
                    have ho3 : bits .or .u64 (P1 : Int) (P2 : Int) = ((P1 ||| P2 : Nat) : Int) := u64_or_nat P1 P2 lo1 lo2
                    have lo3 : P1 ||| P2 < 18446744073709551616 := Nat.or_lt_two_pow (n := 64) lo1 lo2
                    have hand3 : bits .and .u64 ((P1 ||| P2 : Nat) : Int) 9259542123273814144 = (((P1 ||| P2) &&& 9259542123273814144 : Nat) : Int) := u64_and_nat _ 9259542123273814144 lo3 (by omega)
                    have m3 := Lib.or_mask P1 P2 9259542123273814144
                    generalize P1 ||| P2 = P3 at *
                    have K3 := Lib.hid (show P3 &&& 9259542123273814144 = 0 → Lib.Asc u 32 from fun h => k32 (k24 (k16 (kB0.1 (m1.1 (m3.1 h).1).1) (kB1.1 (m1.1 (m3.1 h).1).2)) (kB2.1 (m2.1 (m3.1 h).2).1)) (kB3.1 (m2.1 (m3.1 h).2).2))
                    generalize P3 &&& 9259542123273814144 = Z3 at *
                    clear kB0 kB1 kB2 kB3 m1 m2 m3 lo1 lo2 lo3 k16 k24 k32
                    by_cases hz3 : Z3 = 0
                    · have hz3b : ((Z3 : Int) == 0) = true := by simp [hz3]
                      have VU := Lib.hid ((validV_skip (f := f) (lo := lo) (hi := hi) 32 u (K3.out hz3)).symm.trans vu.out)
                      generalize hu4 : u.extract 32 u.size = u4b at *
                      have zu4 : u4b.size + 32 = u.size := by rw [← hu4, Lib.ext_size]; omega
                      clear hz3 K3
                      go_wp2_with fail
                      go_quiet (first | (go_at_call 75; with_reducible refine Calls.quiet_of (CB0.out _)) | (go_at_call 75; with_reducible refine Calls.quiet_of (CB1.out _)) | (go_at_call 75; with_reducible refine Calls.quiet_of (CB2.out _)) | (go_at_call 75; with_reducible refine Calls.quiet_of (CB3.out _)))
                      go_wp2_with fail
                      go_roundw
                      case rel => exact ⟨_, rfl, by omega, VU, Lib.hid (below_drawn hbu.out _)⟩
                      case measure => simp [strLen]; omega
                    · have hz3b : ((Z3 : Int) == 0) = false := by simp [hz3]
                      clear hz3 K3
                      go_wp2_with fail
                      go_quiet (first | (go_at_call 75; with_reducible refine Calls.quiet_of (CB0.out _)) | (go_at_call 75; with_reducible refine Calls.quiet_of (CB1.out _)) | (go_at_call 75; with_reducible refine Calls.quiet_of (CB2.out _)) | (go_at_call 75; with_reducible refine Calls.quiet_of (CB3.out _)))
                      go_wp2_with fail
                      go_roundw
                      case rel => exact ⟨_, rfl, by omega, vu, Lib.hid (below_drawn hbu.out _)⟩
                      case measure => simp [strLen]; omega
                  · have c32z : ¬ (32 : Int) < (u.size : Int) := by omega
                    have c32d : decide ((32 : Int) < (u.size : Int)) = false := decide_eq_false c32z
                    go_wp2_with fail
                    go_quiet (fail)
                    go_wp2_with fail
                    go_roundw
                    case rel => exact ⟨_, rfl, by omega, vu, Lib.hid (below_drawn hbu.out _)⟩
                    case measure => simp [strLen]; omega
              · have hz2b : ((Z2 : Int) == 0) = false := by simp [hz2]
                clear hz2 K2
                go_wp2_with fail
                go_quiet (first | (go_at_call 75; with_reducible refine Calls.quiet_of (CW2.out _)) | (go_at_call 75; with_reducible refine Calls.quiet_of (CW3.out _)))
                go_wp2_with fail
                go_roundw
                case rel => exact ⟨_, rfl, by omega, V2, Lib.hid (below_drawn hb1.out _)⟩
                case measure => simp [strLen]; omega
            · have c16z : ¬ (16 : Int) < (t2.size : Int) := by omega
              have c16d : decide ((16 : Int) < (t2.size : Int)) = false := decide_eq_false c16z
              go_wp2_with fail
              go_quiet (fail)
              go_wp2_with fail
              go_roundw
              case rel => exact ⟨_, rfl, by omega, V2, Lib.hid (below_drawn hb1.out _)⟩
              case measure => simp [strLen]; omega
          · have hz1b : ((Z1 : Int) == 0) = false := by simp [hz1]
            clear kA1 hz1
            go_wp2_with fail
            refine (CW1.out _).mono ?_
            rintro e W1 ⟨rfl, q1, rfl⟩
            go_wp2_with fail
            go_roundw
            case rel => exact ⟨_, rfl, by omega, V1, Lib.hid (below_drawn hb.out _)⟩
            case measure => simp [strLen]; omega
        · have c8z : ¬ (8 : Int) < (t1.size : Int) := by omega
          go_wp2_with fail
          go_roundw
          case rel => exact ⟨_, rfl, by omega, V1, hb⟩
          case measure => simp [strLen]; omega
      · rw [if_neg hasc] at hst
        have hl0 : leadV f lo hi t = leadV f lo hi t := rfl
        have hTr := HT.out.below hb.out
        have hc0 := (hTr.1 (t.get! 0).toNat hx0lt).1
        have hXlt := (hTr.1 (t.get! 0).toNat hx0lt).2
        conv at hl0 => rhs; unfold leadV
        generalize hx0 : t.get! 0 = x0 at *
        generalize hx1 : t.get! 1 = x1 at *
        generalize hx2 : t.get! 2 = x2 at *
        generalize hx3 : t.get! 3 = x3 at *
        have l1 := x1.toNat_lt
        have l2 := x2.toNat_lt
        have l3 := x3.toNat_lt
        generalize f x0.toNat = X at *
        have h7 := and_7 ⟨X, hXlt⟩
        simp only at h7
        have ha0 : wr.cell? ⟨20, X / 16 * 2, none⟩ = some (.int .u8 (lo (X / 16) : Nat)) := by rw [Nat.mul_comm]; exact (hTr.2 (X / 16) (by omega)).1
        have ha1 : wr.cell? ⟨20, X / 16 * 2 + 1, none⟩ = some (.int .u8 (hi (X / 16) : Nat)) := by rw [Nat.mul_comm]; exact (hTr.2 (X / 16) (by omega)).2.1
        clear hTr
        generalize lo (X / 16) = LO at *
        generalize hi (X / 16) = HI at *
        have hascz : ¬ ((x0.toNat : Int) < 128) := by omega
        obtain ⟨SZ, hSZ⟩ : ∃ SZ, X % 8 = SZ := ⟨_, rfl⟩
        rw [hSZ] at hl0
        rw [hl0] at hst
        clear hl0
        by_cases s2 : SZ = 2
        · subst s2
          have hSZz : (X : Int) % 8 = 2 := by omega
          have HLD := Lib.hid (show ANS = (if (if t.size < 2 ∨ x1.toNat < LO ∨ HI < x1.toNat then 0 else 2) = 0 then false else validV f lo hi (t.extract (if t.size < 2 ∨ x1.toNat < LO ∨ HI < x1.toNat then 0 else 2) t.size)) from by
            have h9 := hst
            simp (decide := true) only [if_true, if_false] at h9
            exact h9)
          clear hst
          obtain ⟨BB, hBB⟩ : ∃ BB, decide (t.size < 2 ∨ x1.toNat < LO ∨ HI < x1.toNat) = BB := ⟨_, rfl⟩
          have HBB := Lib.hid hBB
          clear hBB
          go_upto_region 17 with fail
          go_cut [94] from 78 to 94 (fun c wx => c = .bool BB ∧ Below w.heap.size w wx)
          case first =>
            by_cases q0 : t.size < 2
            · have q0z : (t.size : Int) < 2 := by omega
              have q0d : decide ((t.size : Int) < 2) = true := decide_eq_true q0z
              go_quiet (fail)
              go_wp2_with fail
              go_meet
              exact ⟨by rw [show BB = true from HBB.out.symm.trans (decide_eq_true (p := t.size < 2 ∨ x1.toNat < LO ∨ HI < x1.toNat) (by omega))] <;> rfl, below_drawn (hb.out.alloc hb.out.size _) _⟩
            · have q0z : ¬ ((t.size : Int) < 2) := by omega
              have q0d : decide ((t.size : Int) < 2) = false := decide_eq_false q0z
              have hz1 : (1 : Int) < (t.size : Int) := by omega
              have hp1 : 1 < t.size := by omega
              have hs1 : t[1]'(by omega) = x1 := by rw [← hx1]; exact get_lt t 1 (by omega)
              by_cases q1 : x1.toNat < LO
              · have q1z : (x1.toNat : Int) < (LO : Int) := by omega
                have q1d : decide ((x1.toNat : Int) < (LO : Int)) = true := decide_eq_true q1z
                go_quiet (fail)
                go_wp2_with fail
                go_meet
                exact ⟨by rw [show BB = true from HBB.out.symm.trans (decide_eq_true (p := t.size < 2 ∨ x1.toNat < LO ∨ HI < x1.toNat) (by omega))] <;> rfl, below_drawn (hb.out.alloc hb.out.size _) _⟩
              · have q1z : ¬ ((x1.toNat : Int) < (LO : Int)) := by omega
                have q1d : decide ((x1.toNat : Int) < (LO : Int)) = false := decide_eq_false q1z
                by_cases q2 : HI < x1.toNat
                · have q2z : (HI : Int) < (x1.toNat : Int) := by omega
                  have q2d : decide ((HI : Int) < (x1.toNat : Int)) = true := decide_eq_true q2z
                  go_quiet (fail)
                  go_wp2_with fail
                  go_meet
                  exact ⟨by rw [show BB = true from HBB.out.symm.trans (decide_eq_true (p := t.size < 2 ∨ x1.toNat < LO ∨ HI < x1.toNat) (by omega))] <;> rfl, below_drawn (hb.out.alloc hb.out.size _) _⟩
                · have q2z : ¬ ((HI : Int) < (x1.toNat : Int)) := by omega
                  have q2d : decide ((HI : Int) < (x1.toNat : Int)) = false := decide_eq_false q2z
                  go_quiet (fail)
                  go_wp2_with fail
                  go_meet
                  exact ⟨by rw [show BB = false from HBB.out.symm.trans (decide_eq_false (p := t.size < 2 ∨ x1.toNat < LO ∨ HI < x1.toNat) (by omega))] <;> rfl, below_drawn (hb.out.alloc hb.out.size _) _⟩
          case rest =>
            obtain ⟨rfl, hbc⟩ := hcut
            have HBC := Lib.hid hbc
            clear hbc
            cases BB with
            | true =>
              have hb9 : t.size < 2 ∨ x1.toNat < LO ∨ HI < x1.toNat := of_decide_eq_true HBB.out
              have HF := Lib.hid (HLD.out.trans (if_pos (by rw [if_pos hb9])))
              clear hb9 HLD HBB
              go_wp2_with fail
              go_ret
              exact ⟨by rw [HF.out] <;> rfl, HBC.out⟩
            | false =>
              have hb9 : ¬ (t.size < 2 ∨ x1.toNat < LO ∨ HI < x1.toNat) := of_decide_eq_false HBB.out
              have HG := Lib.hid (show validV f lo hi (t.extract 2 t.size) = ANS from (HLD.out.trans (by rw [if_neg hb9]; exact if_neg (by omega))).symm)
              have hsz : 2 ≤ t.size := by omega
              have hszz : (2 : Int) ≤ (t.size : Int) := by omega
              generalize htn : t.extract 2 t.size = tn at *
              have ztn : tn.size + 2 = t.size := by rw [← htn, Lib.ext_size]; omega
              clear hb9 HLD HBB
              go_wp2_with fail
              go_roundw
              case rel => exact ⟨_, rfl, by omega, HG, HBC⟩
              case measure => simp [strLen]; omega
        by_cases s3 : SZ = 3
        · subst s3
          have hSZz : (X : Int) % 8 = 3 := by omega
          have HLD := Lib.hid (show ANS = (if (if t.size < 3 ∨ x1.toNat < LO ∨ HI < x1.toNat ∨ x2.toNat < 128 ∨ 191 < x2.toNat then 0 else 3) = 0 then false else validV f lo hi (t.extract (if t.size < 3 ∨ x1.toNat < LO ∨ HI < x1.toNat ∨ x2.toNat < 128 ∨ 191 < x2.toNat then 0 else 3) t.size)) from by
            have h9 := hst
            simp (decide := true) only [if_true, if_false] at h9
            exact h9)
          clear hst
          obtain ⟨BB, hBB⟩ : ∃ BB, decide (t.size < 3 ∨ x1.toNat < LO ∨ HI < x1.toNat ∨ x2.toNat < 128 ∨ 191 < x2.toNat) = BB := ⟨_, rfl⟩
          have HBB := Lib.hid hBB
          clear hBB
          go_upto_region 21 with fail
          go_cut [125] from 99 to 125 (fun c wx => c = .bool BB ∧ Below w.heap.size w wx)
          case first =>
            by_cases q0 : t.size < 3
            · have q0z : (t.size : Int) < 3 := by omega
              have q0d : decide ((t.size : Int) < 3) = true := decide_eq_true q0z
              go_quiet (fail)
              go_wp2_with fail
              go_meet
              exact ⟨by rw [show BB = true from HBB.out.symm.trans (decide_eq_true (p := t.size < 3 ∨ x1.toNat < LO ∨ HI < x1.toNat ∨ x2.toNat < 128 ∨ 191 < x2.toNat) (by omega))] <;> rfl, below_drawn (hb.out.alloc hb.out.size _) _⟩
            · have q0z : ¬ ((t.size : Int) < 3) := by omega
              have q0d : decide ((t.size : Int) < 3) = false := decide_eq_false q0z
              have hz1 : (1 : Int) < (t.size : Int) := by omega
              have hp1 : 1 < t.size := by omega
              have hs1 : t[1]'(by omega) = x1 := by rw [← hx1]; exact get_lt t 1 (by omega)
              have hz2 : (2 : Int) < (t.size : Int) := by omega
              have hp2 : 2 < t.size := by omega
              have hs2 : t[2]'(by omega) = x2 := by rw [← hx2]; exact get_lt t 2 (by omega)
              by_cases q1 : x1.toNat < LO
              · have q1z : (x1.toNat : Int) < (LO : Int) := by omega
                have q1d : decide ((x1.toNat : Int) < (LO : Int)) = true := decide_eq_true q1z
                go_quiet (fail)
                go_wp2_with fail
                go_meet
                exact ⟨by rw [show BB = true from HBB.out.symm.trans (decide_eq_true (p := t.size < 3 ∨ x1.toNat < LO ∨ HI < x1.toNat ∨ x2.toNat < 128 ∨ 191 < x2.toNat) (by omega))] <;> rfl, below_drawn (hb.out.alloc hb.out.size _) _⟩
              · have q1z : ¬ ((x1.toNat : Int) < (LO : Int)) := by omega
                have q1d : decide ((x1.toNat : Int) < (LO : Int)) = false := decide_eq_false q1z
                by_cases q2 : HI < x1.toNat
                · have q2z : (HI : Int) < (x1.toNat : Int) := by omega
                  have q2d : decide ((HI : Int) < (x1.toNat : Int)) = true := decide_eq_true q2z
                  go_quiet (fail)
                  go_wp2_with fail
                  go_meet
                  exact ⟨by rw [show BB = true from HBB.out.symm.trans (decide_eq_true (p := t.size < 3 ∨ x1.toNat < LO ∨ HI < x1.toNat ∨ x2.toNat < 128 ∨ 191 < x2.toNat) (by omega))] <;> rfl, below_drawn (hb.out.alloc hb.out.size _) _⟩
                · have q2z : ¬ ((HI : Int) < (x1.toNat : Int)) := by omega
                  have q2d : decide ((HI : Int) < (x1.toNat : Int)) = false := decide_eq_false q2z
                  by_cases q3 : x2.toNat < 128
                  · have q3z : (x2.toNat : Int) < 128 := by omega
                    have q3d : decide ((x2.toNat : Int) < 128) = true := decide_eq_true q3z
                    go_quiet (fail)
                    go_wp2_with fail
                    go_meet
                    exact ⟨by rw [show BB = true from HBB.out.symm.trans (decide_eq_true (p := t.size < 3 ∨ x1.toNat < LO ∨ HI < x1.toNat ∨ x2.toNat < 128 ∨ 191 < x2.toNat) (by omega))] <;> rfl, below_drawn (hb.out.alloc hb.out.size _) _⟩
                  · have q3z : ¬ ((x2.toNat : Int) < 128) := by omega
                    have q3d : decide ((x2.toNat : Int) < 128) = false := decide_eq_false q3z
                    by_cases q4 : 191 < x2.toNat
                    · have q4z : (191 : Int) < (x2.toNat : Int) := by omega
                      have q4d : decide ((191 : Int) < (x2.toNat : Int)) = true := decide_eq_true q4z
                      go_quiet (fail)
                      go_wp2_with fail
                      go_meet
                      exact ⟨by rw [show BB = true from HBB.out.symm.trans (decide_eq_true (p := t.size < 3 ∨ x1.toNat < LO ∨ HI < x1.toNat ∨ x2.toNat < 128 ∨ 191 < x2.toNat) (by omega))] <;> rfl, below_drawn (hb.out.alloc hb.out.size _) _⟩
                    · have q4z : ¬ ((191 : Int) < (x2.toNat : Int)) := by omega
                      have q4d : decide ((191 : Int) < (x2.toNat : Int)) = false := decide_eq_false q4z
                      go_quiet (fail)
                      go_wp2_with fail
                      go_meet
                      exact ⟨by rw [show BB = false from HBB.out.symm.trans (decide_eq_false (p := t.size < 3 ∨ x1.toNat < LO ∨ HI < x1.toNat ∨ x2.toNat < 128 ∨ 191 < x2.toNat) (by omega))] <;> rfl, below_drawn (hb.out.alloc hb.out.size _) _⟩
          case rest =>
            obtain ⟨rfl, hbc⟩ := hcut
            have HBC := Lib.hid hbc
            clear hbc
            cases BB with
            | true =>
              have hb9 : t.size < 3 ∨ x1.toNat < LO ∨ HI < x1.toNat ∨ x2.toNat < 128 ∨ 191 < x2.toNat := of_decide_eq_true HBB.out
              have HF := Lib.hid (HLD.out.trans (if_pos (by rw [if_pos hb9])))
              clear hb9 HLD HBB
              go_wp2_with fail
              go_ret
              exact ⟨by rw [HF.out] <;> rfl, HBC.out⟩
            | false =>
              have hb9 : ¬ (t.size < 3 ∨ x1.toNat < LO ∨ HI < x1.toNat ∨ x2.toNat < 128 ∨ 191 < x2.toNat) := of_decide_eq_false HBB.out
              have HG := Lib.hid (show validV f lo hi (t.extract 3 t.size) = ANS from (HLD.out.trans (by rw [if_neg hb9]; exact if_neg (by omega))).symm)
              have hsz : 3 ≤ t.size := by omega
              have hszz : (3 : Int) ≤ (t.size : Int) := by omega
              generalize htn : t.extract 3 t.size = tn at *
              have ztn : tn.size + 3 = t.size := by rw [← htn, Lib.ext_size]; omega
              clear hb9 HLD HBB
              go_wp2_with fail
              go_roundw
              case rel => exact ⟨_, rfl, by omega, HG, HBC⟩
              case measure => simp [strLen]; omega
        by_cases s4 : SZ = 4
        · subst s4
          have hSZz : (X : Int) % 8 = 4 := by omega
          have HLD := Lib.hid (show ANS = (if (if t.size < 4 ∨ x1.toNat < LO ∨ HI < x1.toNat ∨ x2.toNat < 128 ∨ 191 < x2.toNat ∨ x3.toNat < 128 ∨ 191 < x3.toNat then 0 else 4) = 0 then false else validV f lo hi (t.extract (if t.size < 4 ∨ x1.toNat < LO ∨ HI < x1.toNat ∨ x2.toNat < 128 ∨ 191 < x2.toNat ∨ x3.toNat < 128 ∨ 191 < x3.toNat then 0 else 4) t.size)) from by
            have h9 := hst
            simp (decide := true) only [if_true, if_false] at h9
            exact h9)
          clear hst
          obtain ⟨BB, hBB⟩ : ∃ BB, decide (t.size < 4 ∨ x1.toNat < LO ∨ HI < x1.toNat ∨ x2.toNat < 128 ∨ 191 < x2.toNat ∨ x3.toNat < 128 ∨ 191 < x3.toNat) = BB := ⟨_, rfl⟩
          have HBB := Lib.hid hBB
          clear hBB
          go_upto_region 25 with fail
          go_cut [166] from 130 to 166 (fun c wx => c = .bool BB ∧ Below w.heap.size w wx)
          case first =>
            by_cases q0 : t.size < 4
            · have q0z : (t.size : Int) < 4 := by omega
              have q0d : decide ((t.size : Int) < 4) = true := decide_eq_true q0z
              go_quiet (fail)
              go_wp2_with fail
              go_meet
              exact ⟨by rw [show BB = true from HBB.out.symm.trans (decide_eq_true (p := t.size < 4 ∨ x1.toNat < LO ∨ HI < x1.toNat ∨ x2.toNat < 128 ∨ 191 < x2.toNat ∨ x3.toNat < 128 ∨ 191 < x3.toNat) (by omega))] <;> rfl, below_drawn (hb.out.alloc hb.out.size _) _⟩
            · have q0z : ¬ ((t.size : Int) < 4) := by omega
              have q0d : decide ((t.size : Int) < 4) = false := decide_eq_false q0z
              have hz1 : (1 : Int) < (t.size : Int) := by omega
              have hp1 : 1 < t.size := by omega
              have hs1 : t[1]'(by omega) = x1 := by rw [← hx1]; exact get_lt t 1 (by omega)
              have hz2 : (2 : Int) < (t.size : Int) := by omega
              have hp2 : 2 < t.size := by omega
              have hs2 : t[2]'(by omega) = x2 := by rw [← hx2]; exact get_lt t 2 (by omega)
              have hz3 : (3 : Int) < (t.size : Int) := by omega
              have hp3 : 3 < t.size := by omega
              have hs3 : t[3]'(by omega) = x3 := by rw [← hx3]; exact get_lt t 3 (by omega)
              by_cases q1 : x1.toNat < LO
              · have q1z : (x1.toNat : Int) < (LO : Int) := by omega
                have q1d : decide ((x1.toNat : Int) < (LO : Int)) = true := decide_eq_true q1z
                go_quiet (fail)
                go_wp2_with fail
                go_meet
                exact ⟨by rw [show BB = true from HBB.out.symm.trans (decide_eq_true (p := t.size < 4 ∨ x1.toNat < LO ∨ HI < x1.toNat ∨ x2.toNat < 128 ∨ 191 < x2.toNat ∨ x3.toNat < 128 ∨ 191 < x3.toNat) (by omega))] <;> rfl, below_drawn (hb.out.alloc hb.out.size _) _⟩
              · have q1z : ¬ ((x1.toNat : Int) < (LO : Int)) := by omega
                have q1d : decide ((x1.toNat : Int) < (LO : Int)) = false := decide_eq_false q1z
                by_cases q2 : HI < x1.toNat
                · have q2z : (HI : Int) < (x1.toNat : Int) := by omega
                  have q2d : decide ((HI : Int) < (x1.toNat : Int)) = true := decide_eq_true q2z
                  go_quiet (fail)
                  go_wp2_with fail
                  go_meet
                  exact ⟨by rw [show BB = true from HBB.out.symm.trans (decide_eq_true (p := t.size < 4 ∨ x1.toNat < LO ∨ HI < x1.toNat ∨ x2.toNat < 128 ∨ 191 < x2.toNat ∨ x3.toNat < 128 ∨ 191 < x3.toNat) (by omega))] <;> rfl, below_drawn (hb.out.alloc hb.out.size _) _⟩
                · have q2z : ¬ ((HI : Int) < (x1.toNat : Int)) := by omega
                  have q2d : decide ((HI : Int) < (x1.toNat : Int)) = false := decide_eq_false q2z
                  by_cases q3 : x2.toNat < 128
                  · have q3z : (x2.toNat : Int) < 128 := by omega
                    have q3d : decide ((x2.toNat : Int) < 128) = true := decide_eq_true q3z
                    go_quiet (fail)
                    go_wp2_with fail
                    go_meet
                    exact ⟨by rw [show BB = true from HBB.out.symm.trans (decide_eq_true (p := t.size < 4 ∨ x1.toNat < LO ∨ HI < x1.toNat ∨ x2.toNat < 128 ∨ 191 < x2.toNat ∨ x3.toNat < 128 ∨ 191 < x3.toNat) (by omega))] <;> rfl, below_drawn (hb.out.alloc hb.out.size _) _⟩
                  · have q3z : ¬ ((x2.toNat : Int) < 128) := by omega
                    have q3d : decide ((x2.toNat : Int) < 128) = false := decide_eq_false q3z
                    by_cases q4 : 191 < x2.toNat
                    · have q4z : (191 : Int) < (x2.toNat : Int) := by omega
                      have q4d : decide ((191 : Int) < (x2.toNat : Int)) = true := decide_eq_true q4z
                      go_quiet (fail)
                      go_wp2_with fail
                      go_meet
                      exact ⟨by rw [show BB = true from HBB.out.symm.trans (decide_eq_true (p := t.size < 4 ∨ x1.toNat < LO ∨ HI < x1.toNat ∨ x2.toNat < 128 ∨ 191 < x2.toNat ∨ x3.toNat < 128 ∨ 191 < x3.toNat) (by omega))] <;> rfl, below_drawn (hb.out.alloc hb.out.size _) _⟩
                    · have q4z : ¬ ((191 : Int) < (x2.toNat : Int)) := by omega
                      have q4d : decide ((191 : Int) < (x2.toNat : Int)) = false := decide_eq_false q4z
                      by_cases q5 : x3.toNat < 128
                      · have q5z : (x3.toNat : Int) < 128 := by omega
                        have q5d : decide ((x3.toNat : Int) < 128) = true := decide_eq_true q5z
                        go_quiet (fail)
                        go_wp2_with fail
                        go_meet
                        exact ⟨by rw [show BB = true from HBB.out.symm.trans (decide_eq_true (p := t.size < 4 ∨ x1.toNat < LO ∨ HI < x1.toNat ∨ x2.toNat < 128 ∨ 191 < x2.toNat ∨ x3.toNat < 128 ∨ 191 < x3.toNat) (by omega))] <;> rfl, below_drawn (hb.out.alloc hb.out.size _) _⟩
                      · have q5z : ¬ ((x3.toNat : Int) < 128) := by omega
                        have q5d : decide ((x3.toNat : Int) < 128) = false := decide_eq_false q5z
                        by_cases q6 : 191 < x3.toNat
                        · have q6z : (191 : Int) < (x3.toNat : Int) := by omega
                          have q6d : decide ((191 : Int) < (x3.toNat : Int)) = true := decide_eq_true q6z
                          go_quiet (fail)
                          go_wp2_with fail
                          go_meet
                          exact ⟨by rw [show BB = true from HBB.out.symm.trans (decide_eq_true (p := t.size < 4 ∨ x1.toNat < LO ∨ HI < x1.toNat ∨ x2.toNat < 128 ∨ 191 < x2.toNat ∨ x3.toNat < 128 ∨ 191 < x3.toNat) (by omega))] <;> rfl, below_drawn (hb.out.alloc hb.out.size _) _⟩
                        · have q6z : ¬ ((191 : Int) < (x3.toNat : Int)) := by omega
                          have q6d : decide ((191 : Int) < (x3.toNat : Int)) = false := decide_eq_false q6z
                          go_quiet (fail)
                          go_wp2_with fail
                          go_meet
                          exact ⟨by rw [show BB = false from HBB.out.symm.trans (decide_eq_false (p := t.size < 4 ∨ x1.toNat < LO ∨ HI < x1.toNat ∨ x2.toNat < 128 ∨ 191 < x2.toNat ∨ x3.toNat < 128 ∨ 191 < x3.toNat) (by omega))] <;> rfl, below_drawn (hb.out.alloc hb.out.size _) _⟩
          case rest =>
            obtain ⟨rfl, hbc⟩ := hcut
            have HBC := Lib.hid hbc
            clear hbc
            cases BB with
            | true =>
              have hb9 : t.size < 4 ∨ x1.toNat < LO ∨ HI < x1.toNat ∨ x2.toNat < 128 ∨ 191 < x2.toNat ∨ x3.toNat < 128 ∨ 191 < x3.toNat := of_decide_eq_true HBB.out
              have HF := Lib.hid (HLD.out.trans (if_pos (by rw [if_pos hb9])))
              clear hb9 HLD HBB
              go_wp2_with fail
              go_ret
              exact ⟨by rw [HF.out] <;> rfl, HBC.out⟩
            | false =>
              have hb9 : ¬ (t.size < 4 ∨ x1.toNat < LO ∨ HI < x1.toNat ∨ x2.toNat < 128 ∨ 191 < x2.toNat ∨ x3.toNat < 128 ∨ 191 < x3.toNat) := of_decide_eq_false HBB.out
              have HG := Lib.hid (show validV f lo hi (t.extract 4 t.size) = ANS from (HLD.out.trans (by rw [if_neg hb9]; exact if_neg (by omega))).symm)
              have hsz : 4 ≤ t.size := by omega
              have hszz : (4 : Int) ≤ (t.size : Int) := by omega
              generalize htn : t.extract 4 t.size = tn at *
              have ztn : tn.size + 4 = t.size := by rw [← htn, Lib.ext_size]; omega
              clear hb9 HLD HBB
              go_wp2_with fail
              go_roundw
              case rel => exact ⟨_, rfl, by omega, HG, HBC⟩
              case measure => simp [strLen]; omega
        have hSZz : ¬ (X : Int) % 8 = 2 := by omega
        have hSZz3 : ¬ (X : Int) % 8 = 3 := by omega
        have hSZz4 : ¬ (X : Int) % 8 = 4 := by omega
        have HF := Lib.hid (show ANS = false from by
          rw [if_neg s2, if_neg s3, if_neg s4] at hst
          exact hst.trans (if_pos rfl))
        clear hst
        go_wp2_with fail
        all_goals
          go_ret
          exact ⟨by rw [HF.out] <;> rfl, hb.out.alloc hb.out.size _⟩
    · have h0z : ¬ (0 : Int) < (t.size : Int) := by omega
      have HF := Lib.hid (show ANS = true from hv.out.symm.trans (validV_nil (by omega)))
      go_wp2_with fail
      go_ret
      exact ⟨by rw [HF.out] <;> rfl, hb.out⟩
end Go.Proofs.YtcddgllckadodaaDoor

/- What runes.Key answers over whatever tables of UTF-8: put together. -/
namespace Go.Proofs.YtcddgllckadodaaDoor
open Go.RowKit Tide Utf

theorem validSpec_tabs (f lo hi : Nat → Nat) : ValidSpec (TabsV f lo hi) (validV f lo hi) where
  keepT := fun _ _ h hb => h.below hb
  valid := fun W s hs hT => validV_any f lo hi s W hs hT
theorem keySpec_tabs (a : Nat → Addr) (f lo hi : Nat → Nat) : KeySpec a (TabsV f lo hi) (keyV (validV f lo hi)) := keySpec_V a (validSpec_tabs f lo hi)
end Go.Proofs.YtcddgllckadodaaDoor

/- Whatever well-formed memory: the two tables of UTF-8 hold some bytes. -/
namespace Go.Proofs.YtcddgllckadodaaDoor
open Go.RowKit Tide Utf

theorem row_first : (((begin Tryd.prog (fun _ _ => 0) default).world.heap[19]?).bind Obj.row?).map (fun x => (x.1.size, x.2)) = some (256, 148) := by kernel_rfl
theorem row_accept : (((begin Tryd.prog (fun _ _ => 0) default).world.heap[20]?).bind Obj.row?).map (fun x => (x.1.size, x.2)) = some (32, 151) := by kernel_rfl
theorem types_first : Tryd.prog.cellTypes Tryd.prog.depth 148 = some (List.replicate 256 5) := by kernel_rfl
theorem types_accept : Tryd.prog.cellTypes Tryd.prog.depth 151 = some (List.replicate 32 5) := by kernel_rfl
theorem builds_first : Tryd.prog.buildable 148 = true := by kernel_rfl
theorem builds_accept : Tryd.prog.buildable 151 = true := by kernel_rfl
theorem glob_size : 19 < Tryd.prog.globals.size ∧ 20 < Tryd.prog.globals.size := of_decide_eq_true (by kernel_rfl)
set_option maxRecDepth 100000 in
theorem row_u8 {W : World} {g m n : Nat} {t : TypeId} {cs : Array Value} (hh : W.heap[g]? = some (.cells cs t)) (hs : cs.size = n) (hok : Row.ok Tryd.prog W .any 0 t cs) (hts : Tryd.prog.cellTypes Tryd.prog.depth t = some (List.replicate m 5)) :
    ∀ i, i < n → ∃ k : Nat, k < 256 ∧ W.cell? ⟨g, i, none⟩ = some (.int .u8 (k : Nat)) := by
  intro i hi
  obtain ⟨ts, h1, _, h3⟩ := hok
  have hts2 : ts = List.replicate m 5 := Option.some.inj (h1.symm.trans hts)
  subst hts2
  have hv : cs[i]? = some cs[i] := Array.getElem?_eq_getElem (by omega)
  obtain ⟨u, hu, hc⟩ := h3 i _ hv
  have hu2 : u = 5 := by
    have := List.mem_of_getElem? hu
    exact (List.mem_replicate.1 this).2
  rw [hu2] at hc
  clear hu2 hu h3 h1
  have hc2 := hc
  unfold Cell.ok at hc2
  rw [Tryd.underlying5] at hc2
  clear hc
  have hcell := cell_of_row W g i cs t (0, 0) hh
  rw [hv] at hcell
  generalize cs[i] = v at *
  cases v with
  | int k' z =>
    obtain ⟨rfl, hz⟩ := hc2
    have hz2 : 0 ≤ z ∧ z ≤ 255 := by
      have h := hz
      unfold IntKind.has at h
      simpa [IntKind.min, IntKind.max, IntKind.signed, IntKind.bits] using h
    refine ⟨z.toNat, by omega, ?_⟩
    rw [hcell, show ((z.toNat : Nat) : Int) = z by omega]
  | _ => exact hc2.elim
def valOf : Option Value → Nat
  | some (.int _ z) => z.toNat
  | _ => 0
set_option maxRecDepth 100000 in
theorem tabs_open {W : World} (h : W.ShapedOpen Tryd.prog) : ∃ f lo hi, TabsV f lo hi W := by
  obtain ⟨x, hx, hxe⟩ := Option.map_eq_some_iff.1 row_first
  obtain ⟨y, hy, hye⟩ := Option.map_eq_some_iff.1 row_accept
  obtain ⟨zx, tx⟩ := x
  obtain ⟨zy, ty⟩ := y
  have ex := Prod.mk.inj hxe
  have ey := Prod.mk.inj hye
  simp only at ex ey
  obtain ⟨cs, h1, h2, h3⟩ := h.1 _ zx tx glob_size.1 hx
  obtain ⟨ds, g1, g2, g3⟩ := h.1 _ zy ty glob_size.2 hy
  obtain ⟨ex1, rfl⟩ := ex
  obtain ⟨ey1, rfl⟩ := ey
  have hf := row_u8 h1 (h2.trans ex1) (h3 builds_first) types_first
  have hg := row_u8 g1 (g2.trans ey1) (g3 builds_accept) types_accept
  refine ⟨fun c => valOf (W.cell? ⟨19, c, none⟩), fun i => valOf (W.cell? ⟨20, 2 * i, none⟩), fun i => valOf (W.cell? ⟨20, 2 * i + 1, none⟩), fun c hc => ?_, fun i hi => ?_⟩
  · obtain ⟨k, hk, e⟩ := hf c hc
    simp only [e, valOf]
    exact ⟨by simp, by omega⟩
  · obtain ⟨k, hk, e⟩ := hg (2 * i) (by omega)
    obtain ⟨k2, hk2, e2⟩ := hg (2 * i + 1) (by omega)
    simp only [e, e2, valOf]
    exact ⟨by simp, by simp, by omega, by omega⟩
end Go.Proofs.YtcddgllckadodaaDoor
