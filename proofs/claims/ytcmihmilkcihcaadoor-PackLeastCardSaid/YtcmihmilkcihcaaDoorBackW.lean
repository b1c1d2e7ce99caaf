/- The law's own helper: bytes that were written of items are read as the items, walked over what a reader's functions do. -/
import Derived.Test.YtcmihmilkcihcaaDoorPackWL
import Derived.Test.YtcmihmilkcihcaaDoorInE
import Derived.Deep.RegionHeld
namespace Go.Proofs.YtcmihmilkcihcaaDoor
open Go.RowKit Tide

/-- A reader at work: all lies apart, from B on. -/
structure RS (I : InP) (w0 : World) (F : Nat → Prop) (B p : Nat) (l : List UInt8) (e : Nat) (W : World) : Prop where
  inn : I W F B p l e
  later : ∀ i, F i → w0.heap.size ≤ i
  below : Below w0.heap.size w0 W
section
variable {a : Nat → Addr} {I : InP} {w0 W W' : World} {F F' : Nat → Prop} {B p e e' : Nat} {l l' : List UInt8}
theorem RS.quiet (hI : InSpec a I) (h : RS I w0 F B p l e W) (hb : Below W.heap.size W W') : RS I w0 F B p l e W' := ⟨hI.quiet h.inn hb, h.later, h.below.trans (hb.mono h.below.size)⟩
theorem RS.alloc (hI : InSpec a I) (h : RS I w0 F B p l e W) (o : Obj) : RS I w0 F B p l e (W.alloc o) := h.quiet hI ((Below.refl _ _).alloc (Nat.le_refl _) o)
theorem RS.drew (hI : InSpec a I) (h : RS I w0 F B p l e W) : RS I w0 F B p l e W.drew := h.quiet hI (Below.refl _ _).drew
theorem RS.did (h : RS I w0 F B p l e W) (h1 : I W' F' B p l' e') (h2 : ∀ k, F' k → F k ∨ W.heap.size ≤ k) (h3 : Kept F W W') : RS I w0 F' B p l' e' W' :=
  ⟨h1, fun i hi => (h2 i hi).elim (h.later i) (fun hw => Nat.le_trans h.below.size hw), Below.kept h.below h3 h.below.size h.later⟩
end

theorem below_drawn' {B : Nat} {a w : World} (h : Below B a w) (n : Nat) : Below B a (w.drewN n) := ⟨h.os, h.tape, h.output, h.size, h.block⟩

set_option maxRecDepth 100000 in
set_option maxHeartbeats 4000000 in
theorem back_any (a : Nat → Addr) (I : InP) (hI : InSpec a I) (v u : Value) (ds : List ItemD) (B0 : Nat) (w : World) (hB0 : B0 ≤ w.heap.size) (hi : Items w B0 v ds) (hL : longI ds = false) (hok : ds.all okItem = true) (hu : Bytes w w.heap.size u (ds.flatMap encItem)) (hE : Errs w a) :
    Calls Tryd.prog 17 #[u, v] w fun e w' => e = .returned (.bool true) ∧ Below w.heap.size w w' := by
  have HE := Lib.hid hE
  have HIn := Lib.hid hI
  have h20 : ds.length ≤ 20 := by unfold longI at hL; simp at hL; omega
  have hlg : ∀ d ∈ ds, d.text.size ≤ 300 ∧ d.list.length ≤ 30 := by
    unfold longI at hL
    simp at hL
    intro d hd
    have := hL.2 d hd
    omega
  have hfs := flat_size hlg hok
  have HLg := Lib.hid hlg
  have HOK := Lib.hid (List.all_eq_true.1 hok)
  have cR := Lib.hid (hI.read w u w.heap.size _ hu (Nat.le_refl _) (by omega) hE)
  obtain ⟨A, c, rfl, _, hcell⟩ := hi.form
  have HC := Lib.hid hcell
  have HFS := Lib.hid hfs
  clear hE hI hL hlg hok hu hi hcell hfs
  go_enter Tryd.func17, Tryd.ntmps17
  go_wp2_with fail
  refine cR.out.mono ?_
  rintro e w1 ⟨p, F1, rfl, hin, hF1, hb⟩
  have HR1 := Lib.hid (RS.mk (I := I) (w0 := w) hin hF1 hb)
  clear hin hF1 hb
  go_wp2_with fail
  go_loopw [12] (fun i wr => ∃ k : Nat, i = .int .i64 k ∧ k ≤ ds.length ∧ Hid (∃ F, RS I w F w.heap.size p ((ds.drop k).flatMap encItem) 0 wr)) (fun i _ => ds.length - (intOf i).toNat)
  case atStart => exact ⟨0, rfl, Nat.zero_le _, Lib.hid ⟨F1, HR1.out⟩⟩
  case round =>
    obtain ⟨k, rfl, hk, hR⟩ := hrel
    obtain ⟨F, hrs⟩ := hR.out
    have HRS := Lib.hid hrs
    clear hR hrs
    by_cases hlt : k < ds.length
    · obtain ⟨bb, o, uu, rfl, hbl, h0, h1, h2, h3, hr, hz, hn1, hn2⟩ := HC.out k hlt
      have hbw : bb < w.heap.size := by omega
      have k0 := ((HRS.out.below.cell (p := ⟨bb, o + k * 4, none⟩) hbw).trans h0)
      have k1 := ((HRS.out.below.cell (p := ⟨bb, o + k * 4 + 1, none⟩) hbw).trans h1)
      have k2 := ((HRS.out.below.cell (p := ⟨bb, o + k * 4 + 2, none⟩) hbw).trans h2)
      have k3 := ((HRS.out.below.cell (p := ⟨bb, o + k * 4 + 3, none⟩) hbw).trans h3)
      obtain ⟨hd1, hd2⟩ := HLg.out ds[k] (List.getElem_mem hlt)
      have hokd := HOK.out ds[k] (List.getElem_mem hlt)
      have HD := Lib.hid (drop_flat ds k hlt)
      have hsz : bb < wr.heap.size := by have := HRS.out.below.size; omega
      have hsn : ¬ bb = wr.heap.size := by omega
      obtain ⟨Au, cu, rfl, _⟩ := ints64_form hr
      have HRow := Lib.hid hr
      clear h0 h1 h2 h3 hr
      have hrl : ((ds.drop k).flatMap encItem).length ≤ 100000 := by
        have h5 : ((ds.drop k).flatMap encItem).length ≤ 400 * (ds.drop k).length := flat_size (fun d hd => HLg.out d (List.mem_of_mem_drop hd)) (List.all_eq_true.2 fun d hd => HOK.out d (List.mem_of_mem_drop hd))
        have : (ds.drop k).length ≤ ds.length := by rw [List.length_drop]; omega
        omega
      generalize (ds.drop k).flatMap encItem = rest at *
      generalize hr' : (ds.drop (k + 1)).flatMap encItem = rest' at *
      have HR' := Lib.hid hr'
      clear hr'
      generalize ds[k] = d at *
      obtain ⟨kind, n, txt, list⟩ := d
      simp only at *
      have W1 := Lib.hid (HRS.out.alloc HIn.out (.cells #[.int .i64 kind, .int .i64 n, .string txt, .slice Au list.length cu] 33))
      have HF := Lib.hid (show Four (wr.alloc (.cells #[.int .i64 kind, .int .i64 n, .string txt, .slice Au list.length cu] 33)) wr.heap.size 33 (.int .i64 kind) (.int .i64 n) (.string txt) (.slice Au list.length cu) from heap_alloc_new wr _)
      have HNF := Lib.hid (show ¬ F wr.heap.size from fun h => Nat.lt_irrefl _ (((HIn.out.lt _ _ _ _ _ _ HRS.out.inn).2 _ h).2))
      by_cases hk0 : kind = 0
      · subst hk0
        have hnn : 0 ≤ n ∧ n ≤ 4611686018427387903 := by
          have hright : rightB n = true := hokd
          unfold rightB at hright
          simpa using hright
        obtain ⟨m, rfl⟩ := Int.eq_ofNat_of_zero_le hnn.1
        have hre := Lib.hid (show inNum rest 0 4611686018427387903 = (rest', 0, m) by
          rw [HD.out]
          show inNum (num7 (Int.toNat (m : Int)) ++ rest') 0 _ = _
          rw [Int.toNat_natCast]
          exact inNum_ok (by omega) rest' _ (by omega))
        have cO := Lib.hid (fun (W : World) (h : Below (wr.heap.size + 1) (wr.alloc (.cells #[.int .i64 0, .int .i64 m, .string txt, .slice Au list.length cu] 33)) W) => HIn.out.num W F w.heap.size p rest 0 4611686018427387903 (HIn.out.quiet W1.out.inn (h.mono (by simp))) hrl (HE.out.below (W1.out.below.trans (h.mono (by have := W1.out.below.size; simp at this; omega)))))
        rw [hre.out] at cO
        clear hokd hnn
        go_wp2_with fail
        go_region_held (fun W => W.cell? ⟨wr.heap.size, 1, none⟩ = some (.int .i64 m)) (first | (rw [World.cell?_alloc_at _ _ _ _ rfl]; rfl) | exact HF.out.facts.2.1 | exact K1.out | assumption)
          (first
            | (go_at_call 19; refine (cO.out _ (Below.refl _ _).drew).mono ?_; rintro e w3 ⟨v3, F3, rfl, rfl, hI3, hF3, hK3⟩; have K1 := Lib.hid ((show Four w3 wr.heap.size 33 _ _ _ _ from hK3.heap (show Four (World.drew _) _ _ _ _ _ _ from HF.out) HNF.out).facts.2.1); have W2 := Lib.hid ((W1.out.drew HIn.out).did hI3 hF3 hK3); clear hI3 hF3 hK3))
        go_wp2_with fail
        go_roundw
        case rel => exact ⟨k + 1, by go_num, by omega, Lib.hid ⟨F3, by rw [HR'.out]; exact W2.out⟩⟩
        case measure => simp [intOf]; omega
      have q0 : (kind == 0) = false := by rw [beq_eq_false_iff_ne]; exact hk0
      by_cases hk1 : kind = 1
      · subst hk1
        have hre := Lib.hid (show inText rest 0 300 = (rest', 0, txt.data.toList) by
          rw [HD.out]
          exact inText_ok hd1 rest')
        have hte := Lib.hid (show (⟨txt.data.toList.toArray⟩ : ByteArray) = txt by rw [Array.toArray_toList])
        have cO := Lib.hid (fun (W : World) (h : Below (wr.heap.size + 1) (wr.alloc (.cells #[.int .i64 1, .int .i64 n, .string txt, .slice Au list.length cu] 33)) W) => HIn.out.text W F w.heap.size p rest 0 300 (HIn.out.quiet W1.out.inn (h.mono (by simp))) hrl (HE.out.below (W1.out.below.trans (h.mono (by have := W1.out.below.size; simp at this; omega)))))
        rw [hre.out, hte.out] at cO
        clear hokd hk0
        go_wp2_with fail
        go_region_held (fun W => W.cell? ⟨wr.heap.size, 2, none⟩ = some (.string txt)) (first | (rw [World.cell?_alloc_at _ _ _ _ rfl]; rfl) | exact HF.out.facts.2.2.1 | exact K1.out | assumption)
          (first
            | (go_at_call 23; refine (cO.out _ (Below.refl _ _).drew).mono ?_; rintro e w3 ⟨v3, F3, rfl, rfl, hI3, hF3, hK3⟩; have K1 := Lib.hid ((show Four w3 wr.heap.size 33 _ _ _ _ from hK3.heap (show Four (World.drew _) _ _ _ _ _ _ from HF.out) HNF.out).facts.2.2.1); have W2 := Lib.hid ((W1.out.drew HIn.out).did hI3 hF3 hK3); clear hI3 hF3 hK3))
        go_wp2_with fail
        go_roundw
        case rel => exact ⟨k + 1, by go_num, by omega, Lib.hid ⟨F3, by rw [HR'.out]; exact W2.out⟩⟩
        case measure => simp [intOf]; omega
      · have q1 : (kind == 1) = false := by rw [beq_eq_false_iff_ne]; exact hk1
        have hallr : list.all rightB = true := by
          have h5 := hokd
          unfold okItem at h5
          rw [if_neg hk0, if_neg hk1] at h5
          exact h5
        have hre := Lib.hid (show inNums rest 0 30 4611686018427387903 = (rest', 0, list.map Int.toNat) by
          rw [HD.out]
          have e : encItem ⟨kind, n, txt, list⟩ = nums7 (list.map Int.toNat) := by unfold encItem; rw [if_neg hk0, if_neg hk1]
          rw [e]
          exact inNums_ok (by rw [List.length_map]; exact hd2) (nats_lt hallr) rest')
        have hle := Lib.hid (show (list.map Int.toNat).map Int.ofNat = list by
          rw [List.map_map]
          conv => rhs; rw [← List.map_id list]
          apply List.map_congr_left
          intro z hz
          have h6 := List.all_eq_true.1 hallr z hz
          unfold rightB at h6
          simp at h6
          show Int.ofNat z.toNat = z
          exact Int.toNat_of_nonneg h6.1)
        have cO := Lib.hid (fun (W : World) (h : Below (wr.heap.size + 1) (wr.alloc (.cells #[.int .i64 kind, .int .i64 n, .string txt, .slice Au list.length cu] 33)) W) => HIn.out.nums W F w.heap.size p rest 0 30 4611686018427387903 (HIn.out.quiet W1.out.inn (h.mono (by simp))) hrl (by omega) (HE.out.below (W1.out.below.trans (h.mono (by have := W1.out.below.size; simp at this; omega)))))
        rw [hre.out] at cO
        clear hokd hk0 hk1 hallr
        go_wp2_with fail
        go_region_held (fun W => W.cell? ⟨wr.heap.size, 3, none⟩ = some (.slice Au list.length cu)) (first | (rw [World.cell?_alloc_at _ _ _ _ rfl]; rfl) | exact HF.out.facts.2.2.2 | exact K2.out | exact K1.out | assumption)
          (first
            | (go_at_call 24; refine (cO.out _ (Below.refl _ _).drew).mono ?_; rintro e w3 ⟨v3, F3, rfl, hrow3, hI3, hF3, hK3⟩; rw [hle.out] at hrow3; have R3 := Lib.hid hrow3; have K1 := Lib.hid ((show Four w3 wr.heap.size 33 _ _ _ _ from hK3.heap (show Four (World.drew _) _ _ _ _ _ _ from HF.out) HNF.out).facts.2.2.2); have W2 := Lib.hid ((W1.out.drew HIn.out).did hI3 hF3 hK3); clear hI3 hF3 hK3 hrow3)
            | (go_at_call 29; refine (same_ints v3 (.slice Au list.length cu) list w3.heap.size B0 w3 R3.out (Row.keep HRow.out (below_cells (W2.out.below.mono hB0)))).mono ?_; rintro e w4 ⟨rfl, ndr, hw4⟩; have hb4 : Below w3.heap.size w3 w4 := hw4 ▸ below_drawn' (Below.refl _ _) ndr; have K2 := Lib.hid ((hb4.cell (p := ⟨wr.heap.size, 3, none⟩) (World.block_lt_of_cell? _ _ K1.out)).trans K1.out); have W3 := Lib.hid (W2.out.quiet HIn.out hb4); clear hb4 hw4))
        go_wp2_with fail
        go_roundw
        case rel => exact ⟨k + 1, by go_num, by omega, Lib.hid ⟨F3, by rw [HR'.out]; exact W3.out⟩⟩
        case measure => simp [intOf]; omega
    · have hend : (ds.drop k).flatMap encItem = [] := by rw [List.drop_of_length_le (by omega)]; rfl
      rw [hend] at HRS
      have cL := Lib.hid (HIn.out.left _ _ _ _ _ _ HRS.out.inn (by simp))
      have cF := Lib.hid (fun W (h : RS I w F w.heap.size p [] 0 W) => HIn.out.fin _ _ _ _ _ _ h.inn (by simp) (HE.out.below h.below))
      clear hend
      go_wp2_with fail
      refine cL.out.mono ?_
      rintro e w3 ⟨rfl, hb3⟩
      have W3 := Lib.hid (HRS.out.quiet HIn.out hb3)
      clear hb3
      go_wp2_with fail
      refine (cF.out _ W3.out).mono ?_
      rintro e w4 ⟨⟨x, rfl, hx⟩, hb4⟩
      have W4 := Lib.hid (W3.out.quiet HIn.out hb4)
      rcases hx with ⟨_, rfl⟩ | ⟨m, hm, h0, rfl⟩
      rotate_left
      · have h1 : (0 : Nat) = m + 1 := h0
        omega
      clear hb4
      go_wp2_with fail
      go_ret
      exact ⟨rfl, W4.out.below⟩
end Go.Proofs.YtcmihmilkcihcaaDoor
