/- The law of what a number that is read is written to, and of how many bytes may be written, walked over what a writer's and a reader's functions do. -/
import Derived.Test.YtcmihmilkcihcaaDoorAlPkW
import Derived.Test.YtcmihmilkcihcaaDoorBackW
import Derived.Test.YtcmihmilkcihcaaDoorCut
import Derived.Laws.OwnMore
import Derived.Laws.MakeOwn
namespace Go.Proofs.YtcmihmilkcihcaaDoor
open Go.RowKit Tide

theorem make_full (n : Nat) (h : n ≤ 100000) (m : Int) (hm : m = (n : Int)) : ∀ W : World, (Instr.makeSlice 26 (.int .i64 m) (.int .i64 m)).run Tryd.prog W = .ok (.slice (some ⟨W.heap.size, 0, none⟩) n n) (W.alloc (.cells (madeCells #[.int .u8 0] n) 5)) := fun W => by
  subst hm
  obtain ⟨i0, hi, hz0, hz1, hz2⟩ := info_parts infoB
  have h := run_make (P := Tryd.prog) W 26 5 i0 (.int .u8 0) Tryd.underlying26 hi hz0 .i64 .i64 (n : Int) (n : Int) (by omega) (by omega) (by rw [hz2]; omega) (by omega)
  rw [hz1] at h
  rw [Int.toNat_natCast, Nat.mul_one] at h
  exact h
theorem full_bytes (W : World) (n : Nat) (h : n ≤ 100000) : Bytes (W.alloc (.cells (madeCells #[.int .u8 0] n) 5)) (W.heap.size + 1) (.slice (some ⟨W.heap.size, 0, none⟩) n n) (List.replicate n 0) :=
  Bytes.new W 5 _ (0, 0) _ n _ rfl (by rw [toList_madeCells_one]; unfold u8s; rw [List.map_replicate]; rfl) (by simp) (by omega)
theorem full_size (n : Nat) : (text (List.replicate n 0)).size = n := by
  show (List.replicate n (0 : UInt8)).toArray.size = n
  simp
theorem num7_three {n : Nat} (h1 : 16384 ≤ n) (h2 : n < 2097152) : (num7 n).length = 3 := by
  rw [num7_ge (by omega), num7_ge (by omega), num7_lt (by omega)]
  rfl
theorem full_text (n : Nat) (h1 : 16384 ≤ n) (h2 : n < 2097152) : (text7 (text (List.replicate n 0))).length = n + 3 := by
  have e : (text (List.replicate n (0 : UInt8))).data.toList.length = n := by simp [text]
  unfold text7
  rw [List.length_append, full_size, num7_three h1 h2, e]
  omega
theorem ten_of (more : Int) : ∃ r : Nat, r < 10 ∧ (IntKind.u64.wrap more).tmod 10 = (r : Int) := by
  have h : 0 ≤ IntKind.u64.wrap more := by
    simp only [IntKind.wrap_u64]
    omega
  refine ⟨((IntKind.u64.wrap more).tmod 10).toNat, ?_, ?_⟩
  · have := Int.tmod_lt_of_pos (IntKind.u64.wrap more) (show (0 : Int) < 10 by omega)
    omega
  · rw [Int.toNat_of_nonneg (Int.tmod_nonneg 10 h)]

theorem full_conv (W : World) (n : Nat) (h : n ≤ 100000) : (convert 26 9 (.slice (some ⟨W.heap.size + 1, 0, none⟩) n n)).run Tryd.prog ((W.alloc (.cells #[.slice none 0 0, .nilIface] 30)).alloc (.cells (madeCells #[.int .u8 0] n) 5)) =
    .ok (.string (text (List.replicate n 0))) ((W.alloc (.cells #[.slice none 0 0, .nilIface] 30)).alloc (.cells (madeCells #[.int .u8 0] n) 5)) := by
  have h1 := conv_bytes (full_bytes (W.alloc (.cells #[.slice none 0 0, .nilIface] 30)) n h)
  rw [World.size_alloc] at h1
  exact h1
theorem full_conv2 (W : World) (n nd : Nat) (h : n ≤ 100000) : (convert 26 9 (.slice (some ⟨W.heap.size + 1, 0, none⟩) n n)).run Tryd.prog (((W.drewN nd).alloc (.cells #[.slice none 0 0, .nilIface] 30)).alloc (.cells (madeCells #[.int .u8 0] n) 5)) =
    .ok (.string (text (List.replicate n 0))) (((W.drewN nd).alloc (.cells #[.slice none 0 0, .nilIface] 30)).alloc (.cells (madeCells #[.int .u8 0] n) 5)) := full_conv (W.drewN nd) n h
theorem done_long {s : ByteArray} (h : 65536 < (text7 s).length) : doneOf (stText (some []) s) = ([], 3) := by
  show (if ([] ++ text7 s).length ≤ 65536 then _ else _) = _
  rw [List.nil_append, if_neg (by omega)]
theorem done_short {s : ByteArray} (h : (text7 s).length ≤ 65536) : doneOf (stText (some []) s) = (text7 s, 0) := by
  show (if ([] ++ text7 s).length ≤ 65536 then _ else _) = _
  rw [List.nil_append, if_pos h]
  rfl
theorem done_num {n : Nat} (h : n < 2 ^ 62) : doneOf (stNum (some []) (n : Int)) = (num7 n, 0) := by
  rw [stNum_ok (right_len (by omega)), Int.toNat_natCast, List.nil_append]
  have := num7_len9 h
  show (if (num7 n).length ≤ 65536 then _ else _) = _
  rw [if_pos (by omega)]

/-- What a read of any number leaves and answers. -/
theorem read_any (l : List UInt8) : ((inNum l 0 4611686018427387903).2.1 = 0 ∧ ∃ n k, inNum l 0 4611686018427387903 = (l.drop k, 0, n) ∧ num7 n = l.take k ∧ n ≤ 4611686018427387903 ∧ 1 ≤ k ∧ k ≤ l.length) ∨
    (inNum l 0 4611686018427387903 = (l, 2, 0)) ∨ (inNum l 0 4611686018427387903 = (l, 4, 0)) := by
  unfold inNum
  rw [if_neg (by simp)]
  rcases h : rdNum l with ⟨e, n, k⟩
  by_cases he : e = 0
  · subst he
    obtain ⟨h1, h2, h3, h4⟩ := rd_least h
    left
    simp only
    rw [if_neg (by simp), if_neg (by omega)]
    exact ⟨rfl, n, k, rfl, h1, by omega, h3, h4⟩
  · right
    have hz : (e = 2 ∨ e = 4) := by
      unfold rdNum at h
      split at h
      · simp at h; omega
      · split at h
        · simp at h; omega
        · simp at h; omega
    rw [if_pos he]
    rcases hz with rfl | rfl
    · exact .inl rfl
    · exact .inr rfl

set_option maxRecDepth 100000 in
set_option maxHeartbeats 4000000 in
theorem packLeast_law (a : Nat → Addr) (O : OutP) (hS : OutSpec a O) (I : InP) (hI : InSpec a I) (v : Value) (l : List UInt8) (more : Int) (w : World) (hu : Bytes w w.heap.size v l) (hE : Errs w a) :
    Calls Tryd.prog 4 #[v, .int .i64 more] w fun e w' => e = .returned (.bool true) ∧ Below w.heap.size w w' := by
  have HE := Lib.hid hE
  have HS := Lib.hid hS
  have HIn := Lib.hid hI
  have HU := Lib.hid hu
  have HA := Lib.hid (palive_any a O hS w hE)
  obtain ⟨Av, cv, rfl, _, _, _⟩ := hu.form
  obtain ⟨r, hr10, hmod⟩ := ten_of more
  have hmk := make_full (65530 + r) (by omega) (65530 + (r : Int)) (by omega)
  have hcv := fun W => full_conv W (65530 + r) (by omega)
  have hcv2 := fun W nd => full_conv2 W (65530 + r) nd (by omega)
  have hsz := full_size (65530 + r)
  have htl := full_text (65530 + r) (by omega) (by omega)
  generalize text (List.replicate (65530 + r) 0) = s at *
  have HSZ := Lib.hid hsz
  have HTL := Lib.hid htl
  clear hE hS hI hu hsz htl
  by_cases hl : 100 < l.length
  · have hq : decide ((100 : Int) < (l.length : Int)) = true := by simp; omega
    clear hl
    go_enter Tryd.func4, Tryd.ntmps4
    go_wp2_with fail
    refine HA.out.mono ?_
    rintro e w1 ⟨rfl, hb⟩
    have HB := Lib.hid hb
    clear hb
    go_wp2_with fail
    go_ret
    exact ⟨rfl, HB.out⟩
  have hq : decide ((100 : Int) < (l.length : Int)) = false := by simp; omega
  have hr0 : (0 : Int) ≤ (r : Int) := by omega
  have hr1 : (r : Int) < 10 := by omega
  go_enter Tryd.func4, Tryd.ntmps4
  go_wp2_with fail
  refine HA.out.mono ?_
  rintro e w1 ⟨rfl, hb⟩
  have HB := Lib.hid hb
  have cR := Lib.hid (HIn.out.read w1 (.slice Av l.length cv) w.heap.size l (HU.out.below hb) hb.size (by omega) (HE.out.below hb))
  clear hb
  go_wp2_with fail
  refine cR.out.mono ?_
  rintro e w2 ⟨p, F2, rfl, hin, hF2, hb⟩
  have R2 := Lib.hid (RS.mk (I := I) (w0 := w) hin (fun i hi => Nat.le_trans HB.out.size (hF2 i hi)) (HB.out.trans (hb.mono HB.out.size)))
  have cN := Lib.hid (HIn.out.num _ _ _ _ _ _ 4611686018427387903 hin (by omega) (HE.out.below R2.out.below))
  clear hin hF2 hb
  go_wp2_with fail
  rcases read_any l with ⟨_, n, k, hr, h7, hn, hk1, hk2⟩ | hr | hr
  · have hdl : (l.drop k).length = l.length - k := List.length_drop
    have hie := Lib.hid (show inEnd (l.drop k) 0 = if l.length = k then 0 else 4 by
      unfold inEnd
      rw [if_neg (by simp)]
      by_cases h0 : l.length = k
      · rw [if_pos h0, List.drop_of_length_le (by omega)]; rfl
      · rw [if_neg h0]
        cases hd : l.drop k with
        | nil => rw [hd] at hdl; simp at hdl; omega
        | cons _ _ => rfl)
    obtain ⟨A2, c2, l2, hl2, hcut0, hct⟩ := cut_h (HU.out) k ((l.length : Int) - ((l.length - k : Nat) : Int)) (by omega) hk2
    have HDN := Lib.hid (done_num (show n < 2 ^ 62 by omega))
    rw [hr] at cN
    refine cN.out.mono ?_
    rintro e w3 ⟨v3, F3, rfl, rfl, hI3, hF3, hK3⟩
    have R3 := Lib.hid (R2.out.did hI3 hF3 hK3)
    have cL := Lib.hid (HIn.out.left _ _ _ _ _ _ R3.out.inn (by simp only; omega))
    simp only at *
    have cF := Lib.hid (fun W (h : RS I w F3 w.heap.size p (l.drop k) 0 W) => HIn.out.fin _ _ _ _ _ _ h.inn (by omega) (HE.out.below h.below))
    rw [hie.out] at cF
    rw [hdl] at cL
    have hkl : l.length - k + k = l.length := by omega
    generalize l.length - k = lk at *
    have ht := Lib.hid h7
    generalize num7 n = t at *
    obtain rfl : t = l2 := (hl2.out.trans h7.symm).symm
    have HCT := Lib.hid hct
    have HCUT := Lib.hid hcut0
    clear hI3 hF3 hK3 hr hdl hie hcut0 hct hl2 h7
    go_wp2_with fail
    refine cL.out.mono ?_
    rintro e w4 ⟨rfl, hb⟩
    have R4 := Lib.hid (R3.out.quiet HIn.out hb)
    clear hb
    by_cases hlk : l.length = k
    · rw [if_pos hlk] at cF
      clear hlk
      go_wp2_with fail
      refine (cF.out _ R4.out).mono ?_
      rintro e w5 ⟨⟨xf, rfl, hxf⟩, hb⟩
      have R5 := Lib.hid (R4.out.quiet HIn.out hb)
      rcases hxf with ⟨_, rfl⟩ | ⟨m, hm, h0, rfl⟩
      rotate_left
      · have h1 : (0 : Nat) = m + 1 := h0
        omega
      clear hb
      have O5 := Lib.hid (os_start (w0 := w) HS.out HE.out R5.out.below)
      have cO := Lib.hid (HS.out.num _ _ _ _ _ (n : Int) O5.out.out (by omega) (by omega) (by omega) (HE.out.below O5.out.below))
      go_wp2_with fail
      refine cO.out.mono ?_
      rintro e w8 ⟨rfl, F8, hO8, hF8, hK8⟩
      have O6 := Lib.hid (O5.out.wrote hO8 hF8 hK8)
      have cD := Lib.hid (HS.out.done _ _ _ _ _ O6.out.out (by omega) (HE.out.below O6.out.below))
      clear hO8 hF8 hK8
      go_wp2_with fail
      refine cD.out.mono ?_
      rintro e w9 ⟨vd, xd, rfl, hbv, hxd, hkd⟩
      rw [HDN.out] at hbv hxd
      rcases hxd with ⟨_, rfl⟩ | ⟨m2, hm2, h02, rfl⟩
      rotate_left
      · have h1 : (0 : Nat) = m2 + 1 := h02
        omega
      have HB9 := Lib.hid (Below.kept O6.out.below hkd O6.out.below.size O6.out.later)
      have hcw := fun nd => conv_bytes (show Bytes (w9.drewN nd) w9.heap.size vd t from hbv)
      have hcl := fun nd => conv_bytes (show Bytes (w9.drewN nd) w.heap.size (.slice A2 t.length c2) t from HCT.out.below (below_drawn' HB9.out nd))
      have hwr : IntKind.i64.wrap ((l.length : Int) - (lk : Int)) = (l.length : Int) - (lk : Int) := IntWalk.i64_in _ (by omega)
      have hcut := HCUT.out
      clear hbv hkd
      go_wp2_with fail
      go_quiet (fail)
      clear hcw hcl hwr hcut
      have O1 := Lib.hid (fun (W : World) (h : Below w.heap.size w W) => (os_start (w0 := w) HS.out HE.out h).quiet HS.out ((Below.refl _ _).alloc (Nat.le_refl _) (.cells (madeCells #[.int .u8 0] (65530 + r)) 5)))
      have cT := Lib.hid (fun (W : World) (h : Below w.heap.size w W) => HS.out.text _ _ _ _ _ s (O1.out W h).out (by omega) (by have := HSZ.out; omega) (HE.out.below (O1.out W h).below))
      go_wp2_with fail
      refine (cT.out _ (below_drawn' HB9.out _)).mono ?_
      rintro e w20 ⟨rfl, F20, hO20, hF20, hK20⟩
      have O2 := Lib.hid ((O1.out _ (below_drawn' HB9.out _)).wrote hO20 hF20 hK20)
      have cD := Lib.hid (HS.out.done _ _ _ _ _ O2.out.out (by have := HSZ.out; omega) (HE.out.below O2.out.below))
      clear hO20 hF20 hK20
      go_wp2_with fail
      refine cD.out.mono ?_
      rintro e w21 ⟨vd1, xd, rfl, hbv, hxd, hkd⟩
      have HB21 := Lib.hid (Below.kept O2.out.below hkd O2.out.below.size O2.out.later)
      clear hkd
      by_cases hr3 : 3 < r
      · rw [done_long (by have := HTL.out; omega)] at hbv hxd
        obtain ⟨Ad, cd, rfl, -⟩ := hbv.form
        have HXD := Lib.hid hxd
        have q3 : decide ((65536 : Int) < 65530 + (r : Int) + 3) = true := by simp; omega
        clear hbv hxd hr3
        go_wp2_with fail
        refine (num_any a xd 3 _ (HE.out.below HB21.out) HXD.out).mono ?_
        rintro e w22 ⟨rfl, hb⟩
        have HB22 := Lib.hid (HB21.out.trans (hb.mono HB21.out.size))
        clear hb
        go_wp2_with fail
        go_ret
        exact ⟨rfl, HB22.out⟩
      · rw [done_short (by have := HTL.out; omega)] at hbv hxd
        obtain ⟨Ad, cd, rfl, -⟩ := hbv.form
        rcases hxd with ⟨_, rfl⟩ | ⟨m2, hm2, h02, rfl⟩
        rotate_left
        · have h1 : (0 : Nat) = m2 + 1 := h02
          omega
        have q3 : decide ((65536 : Int) < 65530 + (r : Int) + 3) = false := by simp; omega
        have q4 : (((text7 s).length : Int) == 65530 + (r : Int) + 3) = true := by rw [HTL.out]; simp
        clear hbv hr3
        simp only at *
        generalize (text7 s).length = ln at *
        go_wp2_with fail
        go_ret
        exact ⟨rfl, HB21.out⟩
    · rw [if_neg hlk] at cF
      go_wp2_with fail
      refine (cF.out _ R4.out).mono ?_
      rintro e w5 ⟨⟨xf, rfl, hxf⟩, hb⟩
      have R5 := Lib.hid (R4.out.quiet HIn.out hb)
      rcases hxf with ⟨h0, _⟩ | ⟨m, hm, h0, rfl⟩
      · cases h0
      clear hb h0
      go_wp2_with fail
      refine (cF.out _ R5.out).mono ?_
      rintro e w6 ⟨⟨xf, rfl, hxf⟩, hb⟩
      have R6 := Lib.hid (R5.out.quiet HIn.out hb)
      have HXF := Lib.hid hxf
      clear hb hxf
      go_wp2_with fail
      refine (num_any a xf 4 _ (HE.out.below R6.out.below) HXF.out).mono ?_
      rintro e w7 ⟨rfl, hb⟩
      have R7 := Lib.hid (R6.out.quiet HIn.out hb)
      have q9 : decide ((lk : Int) < (l.length : Int)) = true := by simp; omega
      clear hb hlk
      have O5 := Lib.hid (os_start (w0 := w) HS.out HE.out R7.out.below)
      have cO := Lib.hid (HS.out.num _ _ _ _ _ (n : Int) O5.out.out (by omega) (by omega) (by omega) (HE.out.below O5.out.below))
      go_wp2_with fail
      refine cO.out.mono ?_
      rintro e w8 ⟨rfl, F8, hO8, hF8, hK8⟩
      have O6 := Lib.hid (O5.out.wrote hO8 hF8 hK8)
      have cD := Lib.hid (HS.out.done _ _ _ _ _ O6.out.out (by omega) (HE.out.below O6.out.below))
      clear hO8 hF8 hK8
      go_wp2_with fail
      refine cD.out.mono ?_
      rintro e w9 ⟨vd, xd, rfl, hbv, hxd, hkd⟩
      rw [HDN.out] at hbv hxd
      rcases hxd with ⟨_, rfl⟩ | ⟨m2, hm2, h02, rfl⟩
      rotate_left
      · have h1 : (0 : Nat) = m2 + 1 := h02
        omega
      have HB9 := Lib.hid (Below.kept O6.out.below hkd O6.out.below.size O6.out.later)
      have hcw := fun nd => conv_bytes (show Bytes (w9.drewN nd) w9.heap.size vd t from hbv)
      have hcl := fun nd => conv_bytes (show Bytes (w9.drewN nd) w.heap.size (.slice A2 t.length c2) t from HCT.out.below (below_drawn' HB9.out nd))
      have hwr : IntKind.i64.wrap ((l.length : Int) - (lk : Int)) = (l.length : Int) - (lk : Int) := IntWalk.i64_in _ (by omega)
      have hcut := HCUT.out
      clear hbv hkd
      go_wp2_with fail
      go_quiet (fail)
      clear hcw hcl hwr hcut
      have O1 := Lib.hid (fun (W : World) (h : Below w.heap.size w W) => (os_start (w0 := w) HS.out HE.out h).quiet HS.out ((Below.refl _ _).alloc (Nat.le_refl _) (.cells (madeCells #[.int .u8 0] (65530 + r)) 5)))
      have cT := Lib.hid (fun (W : World) (h : Below w.heap.size w W) => HS.out.text _ _ _ _ _ s (O1.out W h).out (by omega) (by have := HSZ.out; omega) (HE.out.below (O1.out W h).below))
      go_wp2_with fail
      refine (cT.out _ (below_drawn' HB9.out _)).mono ?_
      rintro e w20 ⟨rfl, F20, hO20, hF20, hK20⟩
      have O2 := Lib.hid ((O1.out _ (below_drawn' HB9.out _)).wrote hO20 hF20 hK20)
      have cD := Lib.hid (HS.out.done _ _ _ _ _ O2.out.out (by have := HSZ.out; omega) (HE.out.below O2.out.below))
      clear hO20 hF20 hK20
      go_wp2_with fail
      refine cD.out.mono ?_
      rintro e w21 ⟨vd1, xd, rfl, hbv, hxd, hkd⟩
      have HB21 := Lib.hid (Below.kept O2.out.below hkd O2.out.below.size O2.out.later)
      clear hkd
      by_cases hr3 : 3 < r
      · rw [done_long (by have := HTL.out; omega)] at hbv hxd
        obtain ⟨Ad, cd, rfl, -⟩ := hbv.form
        have HXD := Lib.hid hxd
        have q3 : decide ((65536 : Int) < 65530 + (r : Int) + 3) = true := by simp; omega
        clear hbv hxd hr3
        go_wp2_with fail
        refine (num_any a xd 3 _ (HE.out.below HB21.out) HXD.out).mono ?_
        rintro e w22 ⟨rfl, hb⟩
        have HB22 := Lib.hid (HB21.out.trans (hb.mono HB21.out.size))
        clear hb
        go_wp2_with fail
        go_ret
        exact ⟨rfl, HB22.out⟩
      · rw [done_short (by have := HTL.out; omega)] at hbv hxd
        obtain ⟨Ad, cd, rfl, -⟩ := hbv.form
        rcases hxd with ⟨_, rfl⟩ | ⟨m2, hm2, h02, rfl⟩
        rotate_left
        · have h1 : (0 : Nat) = m2 + 1 := h02
          omega
        have q3 : decide ((65536 : Int) < 65530 + (r : Int) + 3) = false := by simp; omega
        have q4 : (((text7 s).length : Int) == 65530 + (r : Int) + 3) = true := by rw [HTL.out]; simp
        clear hbv hr3
        simp only at *
        generalize (text7 s).length = ln at *
        go_wp2_with fail
        go_ret
        exact ⟨rfl, HB21.out⟩
  · rw [hr] at cN
    refine cN.out.mono ?_
    rintro e w3 ⟨v3, F3, rfl, rfl, hI3, hF3, hK3⟩
    have R3 := Lib.hid (R2.out.did hI3 hF3 hK3)
    have cL := Lib.hid (HIn.out.left _ _ _ _ _ _ R3.out.inn (by simp only; omega))
    clear hI3 hF3 hK3 hr
    simp only at *
    go_wp2_with fail
    refine cL.out.mono ?_
    rintro e w4 ⟨rfl, hb⟩
    have R4 := Lib.hid (R3.out.quiet HIn.out hb)
    have cF := Lib.hid (fun W (h : RS I w F3 w.heap.size p l 2 W) => HIn.out.fin _ _ _ _ _ _ h.inn (by omega) (HE.out.below h.below))
    rw [show inEnd l 2 = 2 from rfl] at cF
    clear hb
    go_wp2_with fail
    refine (cF.out _ R4.out).mono ?_
    rintro e w5 ⟨⟨xf, rfl, hxf⟩, hb⟩
    have R5 := Lib.hid (R4.out.quiet HIn.out hb)
    rcases hxf with ⟨h0, _⟩ | ⟨m, hm, h0, rfl⟩
    · cases h0
    clear hb h0
    go_wp2_with fail
    refine (cF.out _ R5.out).mono ?_
    rintro e w6 ⟨⟨xf, rfl, hxf⟩, hb⟩
    have R6 := Lib.hid (R5.out.quiet HIn.out hb)
    have HXF := Lib.hid hxf
    clear hb hxf
    go_wp2_with fail
    refine (num_any a xf 2 _ (HE.out.below R6.out.below) HXF.out).mono ?_
    rintro e w7 ⟨rfl, hb⟩
    have R7 := Lib.hid (R6.out.quiet HIn.out hb)
    clear hb
    have O1 := Lib.hid (fun (W : World) (h : Below w.heap.size w W) => (os_start (w0 := w) HS.out HE.out h).quiet HS.out ((Below.refl _ _).alloc (Nat.le_refl _) (.cells (madeCells #[.int .u8 0] (65530 + r)) 5)))
    have cT := Lib.hid (fun (W : World) (h : Below w.heap.size w W) => HS.out.text _ _ _ _ _ s (O1.out W h).out (by omega) (by have := HSZ.out; omega) (HE.out.below (O1.out W h).below))
    go_wp2_with fail
    refine (cT.out _ (R7.out.below)).mono ?_
    rintro e w20 ⟨rfl, F20, hO20, hF20, hK20⟩
    have O2 := Lib.hid ((O1.out _ (R7.out.below)).wrote hO20 hF20 hK20)
    have cD := Lib.hid (HS.out.done _ _ _ _ _ O2.out.out (by have := HSZ.out; omega) (HE.out.below O2.out.below))
    clear hO20 hF20 hK20
    go_wp2_with fail
    refine cD.out.mono ?_
    rintro e w21 ⟨vd1, xd, rfl, hbv, hxd, hkd⟩
    have HB21 := Lib.hid (Below.kept O2.out.below hkd O2.out.below.size O2.out.later)
    clear hkd
    by_cases hr3 : 3 < r
    · rw [done_long (by have := HTL.out; omega)] at hbv hxd
      obtain ⟨Ad, cd, rfl, -⟩ := hbv.form
      have HXD := Lib.hid hxd
      have q3 : decide ((65536 : Int) < 65530 + (r : Int) + 3) = true := by simp; omega
      clear hbv hxd hr3
      go_wp2_with fail
      refine (num_any a xd 3 _ (HE.out.below HB21.out) HXD.out).mono ?_
      rintro e w22 ⟨rfl, hb⟩
      have HB22 := Lib.hid (HB21.out.trans (hb.mono HB21.out.size))
      clear hb
      go_wp2_with fail
      go_ret
      exact ⟨rfl, HB22.out⟩
    · rw [done_short (by have := HTL.out; omega)] at hbv hxd
      obtain ⟨Ad, cd, rfl, -⟩ := hbv.form
      rcases hxd with ⟨_, rfl⟩ | ⟨m2, hm2, h02, rfl⟩
      rotate_left
      · have h1 : (0 : Nat) = m2 + 1 := h02
        omega
      have q3 : decide ((65536 : Int) < 65530 + (r : Int) + 3) = false := by simp; omega
      have q4 : (((text7 s).length : Int) == 65530 + (r : Int) + 3) = true := by rw [HTL.out]; simp
      clear hbv hr3
      simp only at *
      generalize (text7 s).length = ln at *
      go_wp2_with fail
      go_ret
      exact ⟨rfl, HB21.out⟩
  · rw [hr] at cN
    refine cN.out.mono ?_
    rintro e w3 ⟨v3, F3, rfl, rfl, hI3, hF3, hK3⟩
    have R3 := Lib.hid (R2.out.did hI3 hF3 hK3)
    have cL := Lib.hid (HIn.out.left _ _ _ _ _ _ R3.out.inn (by simp only; omega))
    clear hI3 hF3 hK3 hr
    simp only at *
    go_wp2_with fail
    refine cL.out.mono ?_
    rintro e w4 ⟨rfl, hb⟩
    have R4 := Lib.hid (R3.out.quiet HIn.out hb)
    have cF := Lib.hid (fun W (h : RS I w F3 w.heap.size p l 4 W) => HIn.out.fin _ _ _ _ _ _ h.inn (by omega) (HE.out.below h.below))
    rw [show inEnd l 4 = 4 from rfl] at cF
    clear hb
    go_wp2_with fail
    refine (cF.out _ R4.out).mono ?_
    rintro e w5 ⟨⟨xf, rfl, hxf⟩, hb⟩
    have R5 := Lib.hid (R4.out.quiet HIn.out hb)
    rcases hxf with ⟨h0, _⟩ | ⟨m, hm, h0, rfl⟩
    · cases h0
    clear hb h0
    go_wp2_with fail
    refine (cF.out _ R5.out).mono ?_
    rintro e w6 ⟨⟨xf, rfl, hxf⟩, hb⟩
    have R6 := Lib.hid (R5.out.quiet HIn.out hb)
    have HXF := Lib.hid hxf
    clear hb hxf
    go_wp2_with fail
    refine (num_any a xf 4 _ (HE.out.below R6.out.below) HXF.out).mono ?_
    rintro e w7 ⟨rfl, hb⟩
    have R7 := Lib.hid (R6.out.quiet HIn.out hb)
    clear hb
    have O1 := Lib.hid (fun (W : World) (h : Below w.heap.size w W) => (os_start (w0 := w) HS.out HE.out h).quiet HS.out ((Below.refl _ _).alloc (Nat.le_refl _) (.cells (madeCells #[.int .u8 0] (65530 + r)) 5)))
    have cT := Lib.hid (fun (W : World) (h : Below w.heap.size w W) => HS.out.text _ _ _ _ _ s (O1.out W h).out (by omega) (by have := HSZ.out; omega) (HE.out.below (O1.out W h).below))
    go_wp2_with fail
    refine (cT.out _ (R7.out.below)).mono ?_
    rintro e w20 ⟨rfl, F20, hO20, hF20, hK20⟩
    have O2 := Lib.hid ((O1.out _ (R7.out.below)).wrote hO20 hF20 hK20)
    have cD := Lib.hid (HS.out.done _ _ _ _ _ O2.out.out (by have := HSZ.out; omega) (HE.out.below O2.out.below))
    clear hO20 hF20 hK20
    go_wp2_with fail
    refine cD.out.mono ?_
    rintro e w21 ⟨vd1, xd, rfl, hbv, hxd, hkd⟩
    have HB21 := Lib.hid (Below.kept O2.out.below hkd O2.out.below.size O2.out.later)
    clear hkd
    by_cases hr3 : 3 < r
    · rw [done_long (by have := HTL.out; omega)] at hbv hxd
      obtain ⟨Ad, cd, rfl, -⟩ := hbv.form
      have HXD := Lib.hid hxd
      have q3 : decide ((65536 : Int) < 65530 + (r : Int) + 3) = true := by simp; omega
      clear hbv hxd hr3
      go_wp2_with fail
      refine (num_any a xd 3 _ (HE.out.below HB21.out) HXD.out).mono ?_
      rintro e w22 ⟨rfl, hb⟩
      have HB22 := Lib.hid (HB21.out.trans (hb.mono HB21.out.size))
      clear hb
      go_wp2_with fail
      go_ret
      exact ⟨rfl, HB22.out⟩
    · rw [done_short (by have := HTL.out; omega)] at hbv hxd
      obtain ⟨Ad, cd, rfl, -⟩ := hbv.form
      rcases hxd with ⟨_, rfl⟩ | ⟨m2, hm2, h02, rfl⟩
      rotate_left
      · have h1 : (0 : Nat) = m2 + 1 := h02
        omega
      have q3 : decide ((65536 : Int) < 65530 + (r : Int) + 3) = false := by simp; omega
      have q4 : (((text7 s).length : Int) == 65530 + (r : Int) + 3) = true := by rw [HTL.out]; simp
      clear hbv hr3
      simp only at *
      generalize (text7 s).length = ln at *
      go_wp2_with fail
      go_ret
      exact ⟨rfl, HB21.out⟩
end Go.Proofs.YtcmihmilkcihcaaDoor
