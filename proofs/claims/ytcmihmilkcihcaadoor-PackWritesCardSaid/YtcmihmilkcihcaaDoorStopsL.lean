/- The law of what is read behind an error, walked over what a writer's and a reader's functions do. -/
import Derived.Test.YtcmihmilkcihcaaDoorAlPkW
import Derived.Test.YtcmihmilkcihcaaDoorBackW
namespace Go.Proofs.YtcmihmilkcihcaaDoor
open Go.RowKit Tide

/-- Asks that lie in memory: three numbers each. -/
def Asks (w : World) (B : Nat) (v : Value) (ks : List (Int × Int × Int)) : Prop := Recs w B v 3 (ks.map fun k => [.int .i64 k.1, .int .i64 k.2.1, .int .i64 k.2.2])
theorem Asks.form {w : World} {B : Nat} {v : Value} {ks : List (Int × Int × Int)} (h : Asks w B v ks) : ∃ A c, v = .slice A ks.length c ∧ ks.length ≤ 9223372036854775807 ∧ ∀ i (hi : i < ks.length), ∃ b o, A = some ⟨b, o, none⟩ ∧ b < B ∧
    w.cell? ⟨b, o + i * 3, none⟩ = some (.int .i64 ks[i].1) ∧ w.cell? ⟨b, o + i * 3 + 1, none⟩ = some (.int .i64 ks[i].2.1) ∧ w.cell? ⟨b, o + i * 3 + 2, none⟩ = some (.int .i64 ks[i].2.2) := by
  obtain ⟨hn, A, c, rfl, hc⟩ := h
  refine ⟨A, c, by rw [List.length_map], by simpa using hn, fun i hi => ?_⟩
  obtain ⟨b, o, rfl, hb, hcell⟩ := hc (by
    intro e
    have h9 : (ks.map fun k => [Value.int .i64 k.1, .int .i64 k.2.1, .int .i64 k.2.2]).length = 0 := by rw [e]; rfl
    rw [List.length_map] at h9
    omega)
  have he : (ks.map fun k => [Value.int .i64 k.1, .int .i64 k.2.1, .int .i64 k.2.2])[i]? = some [.int .i64 ks[i].1, .int .i64 ks[i].2.1, .int .i64 ks[i].2.2] := by simp [hi]
  have e : ∀ j, o + i * 3 + j = o + (i * 3 + j) := fun j => Nat.add_assoc _ _ _
  exact ⟨b, o, rfl, hb, hcell i 0 _ _ he rfl, by rw [e]; exact hcell i 1 _ _ he rfl, by rw [e]; exact hcell i 2 _ _ he rfl⟩
theorem first_err (l : List UInt8) : (inNum l 0 (-1)).2.1 ≠ 0 ∧ (inNum l 0 (-1)).1.length ≤ l.length ∧ (inNum l 0 (-1)).2.1 ≤ 4 := by
  unfold inNum
  rw [if_neg (by simp)]
  split
  · rename_i h
    refine ⟨h, Nat.le_refl _, ?_⟩
    unfold rdNum
    split
    · simp
    · split <;> simp
  · rw [if_pos (by omega)]
    exact ⟨by simp, by simp, by simp⟩

set_option maxRecDepth 100000 in
set_option maxHeartbeats 4000000 in
theorem packStops_law (a : Nat → Addr) (O : OutP) (hS : OutSpec a O) (I : InP) (hI : InSpec a I) (v u : Value) (l : List UInt8) (ks : List (Int × Int × Int)) (w : World) (hu : Bytes w w.heap.size v l) (hk : Asks w w.heap.size u ks) (hE : Errs w a) :
    Calls Tryd.prog 5 #[v, u] w fun e w' => e = .returned (.bool true) ∧ Below w.heap.size w w' := by
  have HE := Lib.hid hE
  have HS := Lib.hid hS
  have HIn := Lib.hid hI
  have HU := Lib.hid hu
  have HA := Lib.hid (palive_any a O hS w hE)
  obtain ⟨Av, cv, rfl, _, _, _⟩ := hu.form
  obtain ⟨A, c, rfl, _, hcell⟩ := hk.form
  have HC := Lib.hid hcell
  clear hE hS hI hu hk hcell
  by_cases hl : 300 < l.length
  · have hq : decide ((300 : Int) < (l.length : Int)) = true := by simp; omega
    clear hl
    go_enter Tryd.func5, Tryd.ntmps5
    go_wp2_with fail
    refine HA.out.mono ?_
    rintro e w1 ⟨rfl, hb⟩
    have HB := Lib.hid hb
    clear hb
    go_wp2_with fail
    go_ret
    exact ⟨rfl, HB.out⟩
  have hq : decide ((300 : Int) < (l.length : Int)) = false := by simp; omega
  by_cases hk : 20 < ks.length
  · have hq2 : decide ((20 : Int) < (ks.length : Int)) = true := by simp; omega
    clear hl hk
    go_enter Tryd.func5, Tryd.ntmps5
    go_wp2_with fail
    refine HA.out.mono ?_
    rintro e w1 ⟨rfl, hb⟩
    have HB := Lib.hid hb
    clear hb
    go_wp2_with fail
    go_ret
    exact ⟨rfl, HB.out⟩
  have hq2 : decide ((20 : Int) < (ks.length : Int)) = false := by simp; omega
  obtain ⟨hne, hlen, _⟩ := first_err l
  have hln : (inNum l 0 (-1)).1.length ≤ 300 := by omega
  have HNE := Lib.hid hne
  clear hlen hne
  go_enter Tryd.func5, Tryd.ntmps5
  go_wp2_with fail
  refine HA.out.mono ?_
  rintro e w1 ⟨rfl, hb⟩
  have HB := Lib.hid hb
  have cR := Lib.hid (HIn.out.read w1 (.slice Av l.length cv) w.heap.size l (HU.out.below hb) hb.size (by omega) (HE.out.below hb))
  clear hb
  go_wp2_with fail
  refine cR.out.mono ?_
  rintro e w2 ⟨p, F2, rfl, hin, hF2, hb⟩
  have R2 := Lib.hid (RS.mk (I := I) (w0 := w) hin (fun i hi => Nat.le_trans HB.out.size (hF2 i hi)) (HB.out.trans (hb.mono HB.out.size)))
  have cN := Lib.hid (HIn.out.num _ _ _ _ _ _ (-1) hin (by omega) (HE.out.below R2.out.below))
  clear hin hF2 hb
  generalize inNum l 0 (-1) = r at *
  obtain ⟨l1, e1, z1⟩ := r
  simp only at *
  go_wp2_with fail
  refine cN.out.mono ?_
  rintro e w3 ⟨v3, F3, rfl, rfl, hI3, hF3, hK3⟩
  have R3 := Lib.hid (R2.out.did hI3 hF3 hK3)
  have cL := Lib.hid (fun W (h : RS I w F3 w.heap.size p l1 e1 W) => HIn.out.left _ _ _ _ _ _ h.inn (by omega))
  have cE := Lib.hid (fun W (h : RS I w F3 w.heap.size p l1 e1 W) => HIn.out.err _ _ _ _ _ _ h.inn)
  clear hI3 hF3 hK3
  go_wp2_with fail
  refine (cL.out _ R3.out).mono ?_
  rintro e w4 ⟨rfl, hb⟩
  have R4 := Lib.hid (R3.out.quiet HIn.out hb)
  clear hb
  go_wp2_with fail
  refine (cE.out _ R4.out).mono ?_
  rintro e w5 ⟨⟨x, rfl, hx⟩, hb⟩
  have R5 := Lib.hid (R4.out.quiet HIn.out hb)
  have HX := Lib.hid hx
  rcases hx with ⟨h0, _⟩ | ⟨m, hm, h0, rfl⟩
  · exact absurd h0 HNE.out
  clear hb h0
  go_wp2_with fail
  go_loopw [35] (fun i wr => ∃ k : Nat, i = .int .i64 k ∧ k ≤ ks.length ∧ Hid (∃ F, RS I w F w.heap.size p l1 e1 wr)) (fun i _ => ks.length - (intOf i).toNat)
  case atStart => exact ⟨0, rfl, Nat.zero_le _, Lib.hid ⟨_, R5.out⟩⟩
  case round =>
    obtain ⟨k, rfl, hkk, hR⟩ := hrel
    obtain ⟨F, hrs⟩ := hR.out
    have HRS := Lib.hid hrs
    clear hR hrs
    by_cases hlt : k < ks.length
    · obtain ⟨bb, o, rfl, hbl, h0, h1, h2⟩ := HC.out k hlt
      have k0 := ((HRS.out.below.cell (p := ⟨bb, o + k * 3, none⟩) hbl).trans h0)
      have k1 := ((HRS.out.below.cell (p := ⟨bb, o + k * 3 + 1, none⟩) hbl).trans h1)
      have k2 := ((HRS.out.below.cell (p := ⟨bb, o + k * 3 + 2, none⟩) hbl).trans h2)
      have hsz : bb < wr.heap.size := by have := HRS.out.below.size; omega
      have hsn : ¬ bb = wr.heap.size := by omega
      clear h0 h1 h2
      generalize ks[k] = d at *
      obtain ⟨x0, x1, x2⟩ := d
      simp only at *
      have W1 := Lib.hid (HRS.out.alloc HIn.out (.cells #[.int .i64 x0, .int .i64 x1, .int .i64 x2] 54))
      have HF := Lib.hid (show (wr.alloc (.cells #[.int .i64 x0, .int .i64 x1, .int .i64 x2] 54)).heap[wr.heap.size]? = some (.cells #[.int .i64 x0, .int .i64 x1, .int .i64 x2] 54) from heap_alloc_new wr _)
      have HNF := Lib.hid (show ¬ F wr.heap.size from fun h => Nat.lt_irrefl _ (((HIn.out.lt _ _ _ _ _ _ HRS.out.inn).2 _ h).2))
      have cN := Lib.hid (HIn.out.num _ _ _ _ _ _ x1 W1.out.inn (by omega) (HE.out.below W1.out.below))
      rw [inNum_err HNE.out] at cN
      go_wp2_with fail
      refine cN.out.mono ?_
      rintro e w6 ⟨v6, F6, rfl, rfl, hI6, hF6, hK6⟩
      have W2 := Lib.hid (W1.out.did hI6 hF6 hK6)
      have H6 := Lib.hid (hK6.heap HF.out HNF.out)
      have NF6 := Lib.hid (show ¬ F6 wr.heap.size from fun h => (hF6 _ h).elim HNF.out (fun h => by simp at h; omega))
      have c61 : w6.cell? ⟨wr.heap.size, 1, none⟩ = some (.int .i64 x1) := by rw [cell_of_row _ _ 1 _ _ _ H6.out]; rfl
      have cT := Lib.hid (HIn.out.text _ _ _ _ _ _ x1 W2.out.inn (by omega) (HE.out.below W2.out.below))
      rw [inText_err HNE.out] at cT
      clear hI6 hF6 hK6
      go_wp2_with fail
      refine cT.out.mono ?_
      rintro e w7 ⟨v7, F7, rfl, rfl, hI7, hF7, hK7⟩
      have W3 := Lib.hid (W2.out.did hI7 hF7 hK7)
      have H7 := Lib.hid (hK7.heap H6.out NF6.out)
      have c71 : w7.cell? ⟨wr.heap.size, 1, none⟩ = some (.int .i64 x1) := by rw [cell_of_row _ _ 1 _ _ _ H7.out]; rfl
      have cM := Lib.hid (HIn.out.nums _ _ _ _ _ _ 5 x1 W3.out.inn (by omega) (by omega) (HE.out.below W3.out.below))
      rw [inNums_err HNE.out] at cM
      clear hI7 hF7 hK7 c61
      go_wp2_with fail
      refine cM.out.mono ?_
      rintro e w8 ⟨v8, F8, rfl, hr8, hI8, hF8, hK8⟩
      have W4 := Lib.hid (W3.out.did hI8 hF8 hK8)
      obtain ⟨_, A8, c8, rfl, _⟩ := hr8
      clear hI8 hF8 hK8 c71
      go_wp2_with fail
      go_roundw
      case rel => exact ⟨k + 1, by go_num, by omega, Lib.hid ⟨_, W4.out⟩⟩
      case measure => simp [intOf]; omega
    · have O1 := Lib.hid (os_start (w0 := wr) HS.out (HE.out.below HRS.out.below) (Below.refl wr.heap.size wr))
      have UP := Lib.hid (fun (W : World) (h : Below wr.heap.size wr W) => HRS.out.quiet HIn.out h)
      have c1 := Lib.hid (HS.out.num _ _ _ _ _ (-1) O1.out.out (by omega) (by omega) (by omega) (HE.out.below (UP.out _ O1.out.below).below))
      rw [stNum_bad (show rightB (-1) = false from rfl)] at c1
      go_wp2_with fail
      refine c1.out.mono ?_
      rintro e w6 ⟨rfl, F6, hO6, hF6, hK6⟩
      have O2 := Lib.hid (O1.out.wrote hO6 hF6 hK6)
      have c2 := Lib.hid (HS.out.num _ _ _ _ _ 3 O2.out.out (by omega) (by omega) (by omega) (HE.out.below (UP.out _ O2.out.below).below))
      rw [stNum_none] at c2
      clear hO6 hF6 hK6
      go_wp2_with fail
      refine c2.out.mono ?_
      rintro e w7 ⟨rfl, F7, hO7, hF7, hK7⟩
      have O3 := Lib.hid (O2.out.wrote hO7 hF7 hK7)
      have c3 := Lib.hid (HS.out.text _ _ _ _ _ ⟨#[120]⟩ O3.out.out (by omega) (by decide) (HE.out.below (UP.out _ O3.out.below).below))
      rw [show stText none ⟨#[120]⟩ = none from rfl] at c3
      clear hO7 hF7 hK7
      go_wp2_with fail
      refine c3.out.mono ?_
      rintro e w8 ⟨rfl, F8, hO8, hF8, hK8⟩
      have O4 := Lib.hid (O3.out.wrote hO8 hF8 hK8)
      have cD := Lib.hid (HS.out.done _ _ _ _ _ O4.out.out (by decide) (HE.out.below (UP.out _ O4.out.below).below))
      clear hO8 hF8 hK8
      go_wp2_with fail
      refine cD.out.mono ?_
      rintro e w9 ⟨vd, xd, rfl, hbv, hxd, hkk9⟩
      have hbv2 : Bytes w9 w9.heap.size vd [] := hbv
      obtain ⟨Ad, cd, rfl, _⟩ := hbv2.form
      have HXD := Lib.hid (show IsErr a xd 1 from hxd)
      have HB9 := Lib.hid (Below.kept O4.out.below hkk9 O4.out.below.size O4.out.later)
      have R9 := Lib.hid (UP.out _ HB9.out)
      have cL := Lib.hid (HIn.out.left _ _ _ _ _ _ R9.out.inn (by omega))
      clear hbv hbv2 hxd hkk9
      go_wp2_with fail
      refine cL.out.mono ?_
      rintro e w10 ⟨rfl, hb⟩
      have R10 := Lib.hid (R9.out.quiet HIn.out hb)
      have cF := Lib.hid (HIn.out.fin _ _ _ _ _ _ R10.out.inn (by omega) (HE.out.below R10.out.below))
      rw [show inEnd l1 e1 = e1 from if_pos HNE.out] at cF
      clear hb
      go_wp2_with fail
      refine cF.out.mono ?_
      rintro e w11 ⟨⟨xf, rfl, hxf⟩, hb⟩
      have R11 := Lib.hid (R10.out.quiet HIn.out hb)
      have HXF := Lib.hid hxf
      clear hb hxf
      go_wp2_with fail
      refine (num_any a xf e1 _ (HE.out.below R11.out.below) HXF.out).mono ?_
      rintro e w12 ⟨rfl, hb⟩
      have R12 := Lib.hid (R11.out.quiet HIn.out hb)
      clear hb
      go_wp2_with fail
      refine (num_any a _ e1 _ (HE.out.below R12.out.below) HX.out).mono ?_
      rintro e w13 ⟨rfl, hb⟩
      have R13 := Lib.hid (R12.out.quiet HIn.out hb)
      clear hb
      go_wp2_with fail
      refine (num_any a xd 1 _ (HE.out.below R13.out.below) HXD.out).mono ?_
      rintro e w14 ⟨rfl, hb⟩
      have R14 := Lib.hid (R13.out.quiet HIn.out hb)
      clear hb
      go_wp2_with fail
      go_ret
      exact ⟨rfl, R14.out.below⟩
end Go.Proofs.YtcmihmilkcihcaaDoor
