/- A list of acts on chains, as it lies in memory, and as an argument. It speaks of no function. -/
import Derived.Test.YtiafamacjpgjoaaGreatDoorGCtM
import Derived.Test.YtiafamacjpgjoaaGreatDoorGUrG
import Derived.Test.YtiafamacjpgjoaaGreatDoorGCiS
import Derived.Test.YtiafamacjpgjoaaGreatDoorGChF
import Derived.Test.YtiafamacjpgjoaaGreatDoorGChE
import Derived.Test.YtiafamacjpgjoaaGreatDoorGPlR
import Derived.Test.YtiafamacjpgjoaaGreatDoorGPlU
import Derived.Test.YtiafamacjpgjoaaGreatDoorGKeep
import Derived.Test.YtiafamacjpgjoaaGreatDoorGMem
import Derived.WalkKit
import Derived.Deep.Matrix
namespace Go.Proofs.YtiafamacjpgjoaaGreatDoor
open Go Go.ChangeShapes Go.WideShapes Go.ChangeAt Go.RowKit Go.Deep Tide

def ActsC (w : World) (B : Nat) (v : Value) (ks : List ActC) : Prop := Recs w B v 4 (ks.map fun k => k.cells.toList)
theorem ActsC.form {w : World} {B : Nat} {v : Value} {ks : List ActC} (h : ActsC w B v ks) : ∃ A c, v = .slice A ks.length c ∧ ks.length ≤ 9223372036854775807 ∧ ∀ i (hi : i < ks.length), ∃ b o, A = some ⟨b, o, none⟩ ∧ b < B ∧
    w.cell? ⟨b, o + i * 4, none⟩ = some (.int .i64 ks[i].kind) ∧ w.cell? ⟨b, o + i * 4 + 1, none⟩ = some (.int .i64 ks[i].a) ∧ w.cell? ⟨b, o + i * 4 + 2, none⟩ = some (.int .i64 ks[i].k) ∧ w.cell? ⟨b, o + i * 4 + 3, none⟩ = some (.string ⟨ks[i].text.toArray⟩) := by
  obtain ⟨hn, A, c, rfl, hc⟩ := h
  refine ⟨A, c, by rw [List.length_map], by simpa using hn, fun i hi => ?_⟩
  obtain ⟨b, o, rfl, hb, hcell⟩ := hc (by
    intro e
    have h9 : (ks.map fun k => k.cells.toList).length = 0 := by rw [e]; rfl
    rw [List.length_map] at h9
    omega)
  have he : (ks.map fun k => k.cells.toList)[i]? = some (ks[i]).cells.toList := by simp [hi]
  have e : ∀ j, o + i * 4 + j = o + (i * 4 + j) := fun j => Nat.add_assoc _ _ _
  exact ⟨b, o, rfl, hb, hcell i 0 _ _ he rfl, by rw [e]; exact hcell i 1 _ _ he rfl, by rw [e]; exact hcell i 2 _ _ he rfl, by rw [e]; exact hcell i 3 _ _ he rfl⟩
theorem pick_actsC {α β : Type} {f : α → β} : ∀ es : List β, (∀ x ∈ es, ∃ d, x = f d) → ∃ ds : List α, es = ds.map f
  | [], _ => ⟨[], rfl⟩
  | x :: es, h => by
    obtain ⟨d, hd⟩ := h x (by simp)
    obtain ⟨ds, hl⟩ := pick_actsC es (fun y hy => h y (by simp [hy]))
    exact ⟨d :: ds, by rw [hd, hl]; rfl⟩
theorem four_ofC {x : List Value} {a b c d : Value} (hl : x.length = 4) (h0 : x[0]? = some a) (h1 : x[1]? = some b) (h2 : x[2]? = some c) (h3 : x[3]? = some d) : x = [a, b, c, d] := by
  match x, hl with
  | [p, q, r, s], _ => simp at h0 h1 h2 h3; subst h0 h1 h2 h3; rfl
section
variable {H : Type} {enc : TypeId × Value → H} {P : Program} {W : World}
theorem open_actsC {t e : TypeId} {f0 f1 f2 f3 : Field} {v : Value} {d : DataW H} {p : List MemPlace} (ht : P.underlying t = some (.slice e)) (he : P.underlying e = some (.struct #[f0, f1, f2, f3])) (hone : oneCellFields P #[f0, f1, f2, f3] = true) (hC : P.cellsOf e = 4)
    (k0 : P.underlying f0.type = some (.int .i64)) (k1 : P.underlying f1.type = some (.int .i64)) (k2 : P.underlying f2.type = some (.int .i64)) (k3 : P.underlying f3.type = some .string)
    {base : Nat} (hok : Value.okWide P W .any base t v) (h : DataW.Trod enc P W 0 (fun _ => true) true t v d p) : ∃ ks, ActsC W W.heap.size v ks := by
  obtain ⟨es, hr, hx⟩ := open_recs ht he hone hC (by simp) hok h
  obtain ⟨ks, hks⟩ := pick_actsC (f := fun k : ActC => k.cells.toList) es (fun x hxm => by
    obtain ⟨hlen, hf⟩ := hx x hxm
    obtain ⟨u0, n0, y0, g0, t0⟩ := hf 0 f0 rfl
    obtain ⟨u1, n1, y1, g1, t1⟩ := hf 1 f1 rfl
    obtain ⟨u2, n2, y2, g2, t2⟩ := hf 2 f2 rfl
    obtain ⟨u3, n3, y3, g3, t3⟩ := hf 3 f3 rfl
    obtain ⟨z0, rfl, _, _⟩ := open_int64 k0 t0
    obtain ⟨z1, rfl, _, _⟩ := open_int64 k1 t1
    obtain ⟨z2, rfl, _, _⟩ := open_int64 k2 t2
    obtain ⟨s, rfl⟩ := open_text k3 t3
    exact ⟨⟨z0, z1, z2, s.data.toList⟩, four_ofC hlen g0 g1 g2 (by rw [g3])⟩)
  subst hks
  exact ⟨ks, hr⟩
end
end Go.Proofs.YtiafamacjpgjoaaGreatDoor
/- The law ChainTrims: behind a trim all below is trimmed, and all else is as it was. -/
namespace Go.Proofs.YtiafamacjpgjoaaGreatDoor
open Go Go.RowKit Tide

theorem planT_of {ep : Int} {cs : List (List Int)} (hR : rightB ep cs = true) (he : ep ≤ 1000) (h5 : ∀ m ∈ unitsL cs, m ≤ 5) : PlanT ep cs :=
  ⟨hR, he, fun n hn => h5 n (by rw [← units_sorted hR]; exact List.mem_mergeSort.2 hn)⟩
theorem fresh0 (cs : List (List Int)) : FreshC cs (fun _ => newD) := ⟨fun _ _ => ⟨newD, ⟨rfl, rfl, fun r hr => by cases hr⟩, fun _ _ => rfl⟩⟩
section
variable {D : DvP} {a : Nat → Addr} {w : World} {K : PlayK} {H : Nat → Nat → Prop} {vu vp : Value} {cs : List (List Int)} {ep : Int}
def ActT (D : DvP) (w : World) (K : PlayK) (cs : List (List Int)) (k : Nat) (W : World) : Prop := ∃ us F H, PlayW D w W K F H us (fun _ => newD) allUp (3 * k) ∧ FreshC cs us
theorem FreshC.read2 {us : Nat → UnitD} (h : FreshC cs us) (hp : PlanT ep cs) {i : Nat} (hi : i ≤ 4095) : (readC14 allUp ep cs i us).1 = us ∧ (((readC14 allUp ep cs i us).2.2 = 0 ∧ (readC14 allUp ep cs i us).2.1 ≠ []) ∨ ((readC14 allUp ep cs i us).2.2 = 10 ∧ (readC14 allUp ep cs i us).2.1 = [])) := by
  obtain ⟨u, hu, _, e⟩ := h.read hp (a := (i : Int)) (by omega) (by omega)
  obtain ⟨p1, _, g1, _⟩ := right_parts hp.right
  rw [e]
  exact ⟨rfl, hu.read p1 hp.small (Int.ediv_nonneg (by omega) (by omega)) (Int.le_trans (Int.ediv_le_self _ (by omega)) (by omega))⟩
def WasT (D : DvP) (w : World) (K : PlayK) (H : Nat → Nat → Prop) (us : Nat → UnitD) (b : Nat) (cs : List (List Int)) (ep : Int) (k : Nat) (W : World) : Prop :=
  ∃ F ss, TrimS D w W K F H us (fun _ => newD) (90 + 3 * k) b ss ∧ ∀ i : Nat, ss i = if i < k then (readC14 allUp ep cs i us).2.1 else []
theorem WasT.set {x : Nat → Addr} {us : Nat → UnitD} {F : Nat → Nat → Prop} {ss : Nat → List UInt8} {b k : Nat} {W : World} (hD : DvSpec x D) (h : TrimS D w W K F H us (fun _ => newD) (90 + 3 * k + 3) b ss) (hs : ∀ i : Nat, ss i = if i < k then (readC14 allUp ep cs i us).2.1 else []) : WasT D w K H us b cs ep (k + 1) (W.setCell ⟨b, k, none⟩ (.string (text (readC14 allUp ep cs k us).2.1))) :=
  ⟨F, _, h.set hD k _, fun i => by
    show (if i = k then _ else ss i) = _
    by_cases e : i = k
    · subst e; rw [if_pos rfl, if_pos (by omega)]
    · rw [if_neg e, hs i]
      by_cases e2 : i < k
      · rw [if_pos e2, if_pos (by omega)]
      · rw [if_neg e2, if_neg (by omega)]⟩
theorem WasT.skip {us : Nat → UnitD} {F : Nat → Nat → Prop} {ss : Nat → List UInt8} {b k : Nat} {W : World} (h : TrimS D w W K F H us (fun _ => newD) (90 + 3 * k + 3) b ss) (hs : ∀ i : Nat, ss i = if i < k then (readC14 allUp ep cs i us).2.1 else []) (hr : (readC14 allUp ep cs k us).2.1 = []) : WasT D w K H us b cs ep (k + 1) W :=
  ⟨F, ss, h, fun i => by
    rw [hs i]
    by_cases e : i = k
    · subst e; rw [if_neg (by omega), if_pos (by omega), hr]
    · by_cases e2 : i < k
      · rw [if_pos e2, if_pos (by omega)]
      · rw [if_neg e2, if_neg (by omega)]⟩
set_option maxRecDepth 100000 in
set_option maxHeartbeats 4000000 in
theorem chainTrims_law {D : DvP} {a : Nat → Addr} {W : World} (hD : DvSpec (three a) D) (hE : Errs W a) (ep : Int) (cs : List (List Int)) (ks : List ActC) (tq : Int) (vp vk : Value) (hg : Grid W W.heap.size vp cs) (hk : ActsC W W.heap.size vk ks) :
    Calls Tryz.prog 4 #[planV ep vp, vk, .int .i64 tq] W fun e w' => e = .returned (.bool true) ∧ Below W.heap.size W w' := by
  have HD := Lib.hid hD
  have HE := Lib.hid hE
  have HG := Lib.hid hg
  obtain ⟨Ak, ck, rfl, hkl, hkc⟩ := hk.form
  obtain ⟨_, A, c, rfl, _⟩ := hg.form
  have HKc := Lib.hid hkc
  obtain ⟨W0, hW0⟩ : ∃ W0, W.alloc (.cells #[.int .i64 ep, .slice A cs.length c] 24) = W0 := ⟨_, rfl⟩
  have B0 := Lib.hid (show Below W.heap.size W W0 from by rw [← hW0]; exact (Below.refl W.heap.size W).alloc (Nat.le_refl _) _)
  have P0 := Lib.hid (show Two W0 W.heap.size 24 (.int .i64 ep) (.slice A cs.length c) from by rw [← hW0]; exact Two.new W _ _ _)
  have CA := Lib.hid (alive14_any hD hE B0.out)
  obtain ⟨n, hn⟩ : ∃ n, ks.length = n := ⟨_, rfl⟩
  have HN := Lib.hid hn
  rw [hn] at hkl ⊢
  clear hD hE hg hk hkc hn
  go_enter Tryz.func4, Tryz.ntmps4
  go_wp2_with fail
  refine CA.out.mono ?_
  rintro en w1 ⟨rfl, hb⟩
  have HB1 := Lib.hid (B0.out.trans (hb.mono B0.out.size))
  have P1 := Lib.hid (P0.out.below hb P0.out.lt)
  obtain ⟨_, p0, p1, _⟩ := P1.out.facts
  have CL := Lib.hid (long14_any ep cs (.slice A cs.length c) W.heap.size w1 (HG.out.below HB1.out) HB1.out.size)
  clear hb CA hW0
  cases hl : longB cs with
  | true =>
    rw [hl] at CL
    clear hl
    go_wp2_with fail
    refine CL.out.mono ?_
    rintro en w2 ⟨rfl, hb⟩
    have HB2 := Lib.hid (HB1.out.trans (hb.mono HB1.out.size))
    clear hb CL p0 p1
    go_wp2_with fail
    go_ret
    exact ⟨rfl, HB2.out⟩
  | false =>
    rw [hl] at CL
    have HL := Lib.hid hl
    clear hl
    cases q30 : decide ((30 : Int) < (n : Int)) with
    | true =>
      go_wp2_with fail
      refine CL.out.mono ?_
      rintro en w2 ⟨rfl, hb⟩
      have HB2 := Lib.hid (HB1.out.trans (hb.mono HB1.out.size))
      clear hb CL p0 p1
      go_wp2_with fail
      go_ret
      exact ⟨rfl, HB2.out⟩
    | false =>
      have HN30 := Lib.hid (show n ≤ 30 by simp at q30; omega)
      go_wp2_with fail
      refine CL.out.mono ?_
      rintro en w2 ⟨rfl, hb⟩
      have HB2 := Lib.hid (HB1.out.trans (hb.mono HB1.out.size))
      have P2 := Lib.hid (P1.out.below hb P1.out.lt)
      have CR := Lib.hid (right_any ep cs (.slice A cs.length c) W.heap.size w2 (HG.out.below HB2.out) HB2.out.size)
      clear hb CL p0 p1
      obtain ⟨_, p0, p1, _⟩ := P2.out.facts
      cases hR : rightB ep cs with
      | false =>
        rw [hR] at CR
        clear hR
        go_wp2_with fail
        refine CR.out.mono ?_
        rintro en w3 ⟨rfl, hb⟩
        have HB3 := Lib.hid (HB2.out.trans (hb.mono HB2.out.size))
        clear hb CR p0 p1
        go_wp2_with fail
        go_ret
        exact ⟨rfl, HB3.out⟩
      | true =>
        rw [hR] at CR
        have HR := Lib.hid hR
        clear hR
        go_wp2_with fail
        refine CR.out.mono ?_
        rintro en w3 ⟨rfl, hb⟩
        have HB3 := Lib.hid (HB2.out.trans (hb.mono HB2.out.size))
        have P3 := Lib.hid (P2.out.below hb P2.out.lt)
        clear hb CR p0 p1 q30
        obtain ⟨_, p0, p1, _⟩ := P3.out.facts
        cases qe : decide ((1000 : Int) < ep) with
        | true =>
          go_wp2_with fail
          go_ret
          exact ⟨rfl, HB3.out⟩
        | false =>
          have HEp := Lib.hid (show ep ≤ 1000 by simp at qe; omega)
          have CB := Lib.hid (begin14_any HD.out (HE.out.below HB3.out) (Below.refl w3.heap.size w3) ep cs (.slice A cs.length c) W.heap.size (HG.out.below HB3.out) HB3.out.size HL.out)
          go_wp2_with fail
          refine CB.out.mono ?_
          rintro en w4 ⟨K, F, H, rfl, e1, e2, e3, hP, hb4⟩
          have HP4 := Lib.hid hP
          have HB4 := Lib.hid (HB3.out.trans (hb4.mono HB3.out.size))
          have P4 := Lib.hid (P3.out.below hb4 P3.out.lt)
          have E2 := Lib.hid e2
          have E3 := Lib.hid e3
          obtain ⟨c0, _⟩ := hP.facts
          clear e1 e2 e3 hP hb4 CB p0 p1 qe
          obtain ⟨_, p0, p1, _⟩ := P4.out.facts
          have CU := Lib.hid (units_any ep cs (.slice A cs.length c) W.heap.size w4 (HG.out.below HB4.out) HB4.out.size HR.out)
          obtain ⟨m, hm⟩ : ∃ m, (unitsL cs).length = m := ⟨_, rfl⟩
          go_wp2_with fail
          refine CU.out.mono ?_
          rintro en w5 ⟨vU, rfl, hO, hb5⟩
          have HP5 := Lib.hid (HP4.out.below HD.out hb5)
          have HB5 := Lib.hid (HB4.out.trans (hb5.mono HB4.out.size))
          obtain ⟨hul, AU, cU, rfl, hU⟩ := row_ints hO.row
          have HU := Lib.hid hU
          have HM := Lib.hid hm
          rw [hm] at hul ⊢
          clear hO hb5 hU CU p0 p1 c0 hm
          go_wp2_with fail
          go_loopw [50] (fun i wr => ∃ k : Nat, i = .int .i64 k ∧ k ≤ m ∧ Hid (∀ x ∈ (unitsL cs).take k, x ≤ 5) ∧ wr = w5) (fun i _ => m - (intOf i).toNat)
          case atStart => exact ⟨0, rfl, Nat.zero_le _, Lib.hid (fun x hx => by simp at hx), rfl⟩
          case round =>
            obtain ⟨k, rfl, hkm, hS, rfl⟩ := hrel
            by_cases hlt : k < m
            · obtain ⟨b, o, rfl, _, h1⟩ := HU.out k (by rw [HM.out]; exact hlt)
              have i1 : (k : Int) < (m : Int) := by omega
              have HT := Lib.hid (List.take_succ_eq_append_getElem (l := unitsL cs) (i := k) (by rw [HM.out]; exact hlt))
              generalize (unitsL cs)[k]'(by rw [HM.out]; exact hlt) = z at h1 HT
              cases qz : decide ((5 : Int) < z) with
              | true =>
                go_wp2_with fail
                go_ret
                exact ⟨rfl, HB5.out⟩
              | false =>
                have hz : z ≤ 5 := by simp at qz; omega
                have HS2 := Lib.hid (show ∀ x ∈ (unitsL cs).take (k + 1), x ≤ 5 from fun x hx => by
                  rw [HT.out] at hx
                  rcases List.mem_append.1 hx with hx | hx
                  · exact hS.out x hx
                  · rw [List.mem_singleton] at hx; subst hx; exact hz)
                clear hz HT
                go_wp2_with fail
                go_roundw
                case rel => exact ⟨k + 1, by go_num, by omega, HS2, trivial⟩
                case measure => simp [intOf]; omega
            · have hke : k = m := by omega
              have HPT := Lib.hid (planT_of HR.out HEp.out (fun x hx => hS.out x (by rw [hke, ← HM.out, List.take_length]; exact hx)))
              have i1 : (m : Int) ≤ (k : Int) := by omega
              have HST := Lib.hid (show ActT D w3 K cs 0 wr from ⟨_, F, H, HP5.out, fresh0 cs⟩)
              clear hS HU HM hke
              go_wp2_with fail
              go_loopw [59] (fun i wr => ∃ k : Nat, i = .int .i64 k ∧ k ≤ n ∧ Hid (ActT D w3 K cs k wr)) (fun i _ => n - (intOf i).toNat)
              case atStart => exact ⟨0, rfl, Nat.zero_le _, HST⟩
              case round =>
                obtain ⟨k, rfl, hkn, hS⟩ := hrel
                obtain ⟨us, F', H', hP, hF⟩ := hS.out
                have HBs := Lib.hid hP.unis.since
                have HBr := Lib.hid (HB3.out.trans (hP.unis.since.mono HB3.out.size))
                have Pr := Lib.hid (P3.out.below HBs.out P3.out.lt)
                by_cases hlt : k < n
                · obtain ⟨b, o, rfl, hbW, h0, h1, h2, h3⟩ := HKc.out k (by rw [HN.out]; exact hlt)
                  have g0 := (HBr.out.cell (p := ⟨b, o + k * 4, none⟩) hbW).trans h0
                  have g1 := (HBr.out.cell (p := ⟨b, o + k * 4 + 1, none⟩) hbW).trans h1
                  have g2 := (HBr.out.cell (p := ⟨b, o + k * 4 + 2, none⟩) hbW).trans h2
                  have g3 := (HBr.out.cell (p := ⟨b, o + k * 4 + 3, none⟩) hbW).trans h3
                  clear h0 h1 h2 h3
                  generalize ks[k]'(by rw [HN.out]; exact hlt) = x at g0 g1 g2 g3
                  obtain ⟨kind, ea, ek, tx⟩ := x
                  dsimp only at g0 g1 g2 g3
                  obtain ⟨W5, hW5⟩ : ∃ W5, wr.alloc (.cells (ActC.cells ⟨kind, ea, ek, tx⟩) 38) = W5 := ⟨_, rfl⟩
                  have b5 : Below wr.heap.size wr W5 := by rw [← hW5]; exact (Below.refl wr.heap.size wr).alloc (Nat.le_refl _) _
                  have x5 : W5.heap[wr.heap.size]? = some (.cells (ActC.cells ⟨kind, ea, ek, tx⟩) 38 (0, 0)) := by rw [← hW5]; exact heap_alloc_new wr _
                  have HP5 := Lib.hid (show PlayB D w3 W5 K F' H' us (fun _ => newD) allUp (3 * k) wr.heap.size ⟨kind, ea, ek, tx⟩ from by rw [← hW5]; exact PlayB.start HD.out hP _)
                  have HB5 := Lib.hid (HBr.out.trans (b5.mono HBr.out.size))
                  obtain ⟨d0, d1, d2, d3⟩ := box_act x5
                  dsimp only at d0 d1 d2 d3
                  obtain ⟨c0, _⟩ := HP5.out.play.facts
                  obtain ⟨_, p0, p1, _⟩ := (Pr.out.below b5 Pr.out.lt).facts
                  have i1 : (k : Int) < (n : Int) := by omega
                  obtain ⟨L, hL⟩ : ∃ L, tx.length = L := ⟨_, rfl⟩
                  have hsz : (⟨tx.toArray⟩ : ByteArray).size = L := by show tx.toArray.size = L; simp [hL]
                  have HLt := Lib.hid hL
                  have HF := Lib.hid hF
                  have S5 := Lib.hid (show wr.heap.size ≤ W5.heap.size from b5.size)
                  clear hP b5 x5 hL hbW hS hF
                  cases q3 : decide ((300 : Int) < (L : Int)) with
                  | true =>
                    go_wp2_with fail
                    go_ret
                    exact ⟨rfl, HB5.out⟩
                  | false =>
                    have HX := Lib.hid (show tx.length ≤ 100000 by rw [HLt.out]; simp at q3; omega)
                    obtain ⟨j, hj, hkj⟩ := kmodT ea 20 (by decide) (by decide)
                    have hkj : IntKind.i64.wrap ((IntKind.u64.wrap ea).tmod 20) = (j : Int) := (IntWalk.i64_left _).trans hkj
                    have hcv := fun w => tx_run w tx
                    have B5 := Lib.hid (Below.refl W5.heap.size W5).drew
                    have TF := Lib.hid (tx_facts W5.drew tx HX.out)
                    have BT := Lib.hid (show Below W5.heap.size W5 (txW W5.drew tx) from B5.out.trans (TF.out.2.1.mono B5.out.size))
                    have HQ := Lib.hid (HP5.out.below HD.out BT.out)
                    have CW := Lib.hid (HQ.out.tWrite HD.out (HE.out.below HB3.out) (by have := HN30.out; omega) rfl E3.out E2.out ep (j : Int) (txV W5.drew tx) tx TF.out.1 (fun i e => ⟨fun e2 => by have h1 := TF.out.2.2.1 i e; have h2 := (HP5.out.play.unis.lt i e2).2; have h3 := B5.out.size; omega, by have h1 := TF.out.2.2.1 i e; have h2 := TF.out.2.2.2; omega⟩))
                    have HS6 := Lib.hid (fun (Y : World) (F6 : Nat → Nat → Prop) (hp : PlayB D w3 Y K F6 H' (writeC allUp ep cs (j : Int) tx us).1 (fun _ => newD) allUp (3 * k + 3) wr.heap.size ⟨kind, ea, ek, tx⟩) => show ActT D w3 K cs (k + 1) Y from ⟨_, F6, H', hp.play, HF.out.write HPT.out (by omega) (by omega) tx⟩)
                    have HH6 := Lib.hid (fun (Y : World) (F6 : Nat → Nat → Prop) (us6 : Nat → UnitD) (hp : PlayB D w3 Y K F6 H' us6 (fun _ => newD) allUp (3 * k + 3) wr.heap.size ⟨kind, ea, ek, tx⟩) => show Y.cell? ⟨K.X, 0, none⟩ = some K.vu ∧ Y.cell? ⟨W.heap.size, 0, none⟩ = some (.int .i64 ep) ∧ Y.cell? ⟨W.heap.size, 1, none⟩ = some (.slice A cs.length c) ∧ Y.cell? ⟨wr.heap.size, 1, none⟩ = some (.int .i64 ea) ∧ Y.cell? ⟨wr.heap.size, 3, none⟩ = some (.string ⟨tx.toArray⟩) from by
                      obtain ⟨c0, _⟩ := hp.play.facts
                      obtain ⟨_, d1, _, d3⟩ := box_act hp.box
                      obtain ⟨_, p0, p1, _⟩ := (P3.out.below hp.play.unis.since P3.out.lt).facts
                      exact ⟨c0, p0, p1, d1, d3⟩)
                    have HH := Lib.hid (fun (Y : World) (hb : Below W5.heap.size W5 Y) => (⟨carry hb c0, carry hb p0, carry hb p1, carry hb d1, carry hb d3⟩ : Y.cell? ⟨K.X, 0, none⟩ = some K.vu ∧ Y.cell? ⟨W.heap.size, 0, none⟩ = some (.int .i64 ep) ∧ Y.cell? ⟨W.heap.size, 1, none⟩ = some (.slice A cs.length c) ∧ Y.cell? ⟨wr.heap.size, 1, none⟩ = some (.int .i64 ea) ∧ Y.cell? ⟨wr.heap.size, 3, none⟩ = some (.string ⟨tx.toArray⟩)))
                    have H1 := Lib.hid (HH.out W5.drew B5.out)
                    have H2 := Lib.hid (HH.out (txW W5.drew tx) BT.out)
                    go_upto_region 19 with fail
                    clear c0 p0 p1 d0 d1 d2 d3 g0 g1 g2 g3 hW5
                    go_region_held (fun Y => Y.cell? ⟨K.X, 0, none⟩ = some K.vu ∧ Y.cell? ⟨W.heap.size, 0, none⟩ = some (.int .i64 ep) ∧ Y.cell? ⟨W.heap.size, 1, none⟩ = some (.slice A cs.length c) ∧ Y.cell? ⟨wr.heap.size, 1, none⟩ = some (.int .i64 ea) ∧ Y.cell? ⟨wr.heap.size, 3, none⟩ = some (.string ⟨tx.toArray⟩))
                      (first | exact H1.out | exact H2.out | exact H8.out)
                      (first | (go_at_call 11; (with_reducible refine CW.out.mono ?_); rintro en w8 ⟨y8, F8, rfl, hp8⟩; have HS8 := Lib.hid (HS6.out w8 F8 hp8); have H8 := Lib.hid (HH6.out w8 F8 _ hp8); clear hp8))
                    rename_i hh
                    clear hh H1 H2 H8 HH HH6 HS6 CW HQ BT TF B5 hcv hkj hj
                    go_wp2_with fail
                    go_roundw
                    case rel => exact ⟨k + 1, by go_num, by omega, HS8⟩
                    case measure => simp [intOf]; omega
                · have hke : k = n := by omega
                  have i1 : (n : Int) ≤ (k : Int) := by omega
                  have HP := Lib.hid hP
                  have HF := Lib.hid hF
                  have HN30 := Lib.hid (show 3 * k ≤ 90 by have := HN30.out; omega)
                  obtain ⟨c0, _⟩ := hP.facts
                  obtain ⟨_, p0, p1, _⟩ := Pr.out.facts
                  obtain ⟨z, hz, hkz⟩ := kmodT tq 22 (by decide) (by decide)
                  have hkz : IntKind.i64.wrap ((IntKind.u64.wrap tq).tmod 22) = (z : Int) := (IntWalk.i64_left _).trans hkz
                  clear hP hF hS hlt hke
                  go_upto_region 22 with fail
                  obtain ⟨ys, hys⟩ : ∃ ys : Array Value, ys = (List.replicate 24 (Value.string ⟨#[]⟩)).toArray := ⟨_, rfl⟩
                  have hb0 : Below wr.heap.size wr (wr.alloc (.cells ys 48)) := (Below.refl wr.heap.size wr).alloc (Nat.le_refl _) _
                  have hy1 : (Tryz.prog.info? 48).map (·.size) = some ys.size := by rw [hys]; kernel_rfl
                  have hy2 : ys.all (·.oneCell') = true := by rw [hys]; kernel_rfl
                  have hy3 : Tryz.prog.built 48 [] = some ys := by rw [hys]; kernel_rfl
                  have hy4 : ys.toList = textsV fun _ => [] := by rw [hys]; rfl
                  refine wp_region_list ?_
                  refine Go.wpList_buildTo rfl 48 #[] rfl (some 86) rfl ys (by rw [Array.map_empty]; exact hy3) ?_
                  refine Go.Great.wpList_allocTo rfl (some 12) rfl (.pointer (some ⟨wr.heap.size, 0, none⟩)) (.cells ys 48) (by rw [hys]; kernel_rfl) ?_
                  refine Go.wpList_store_rowTo rfl 48 _ _ rfl rfl wr.heap.size ys rfl rfl 48 ys (heap_alloc_new wr _) hy1 rfl hy2 ?_
                  rw [setRow_newT]
                  refine wpList_nil ?_
                  have HT0 := Lib.hid (show ∃ F1, TrimS D w3 (wr.alloc (.cells ys 48)) K F1 H' us (fun _ => newD) (90 + 3 * 0) wr.heap.size (fun _ => []) from ⟨F', TrimS.new HD.out (HP.out.mono (by have := HN30.out; omega)) rfl ys hy4⟩)
                  have T0 := HT0.out
                  generalize wr.alloc (.cells ys 48) = Y0 at T0 HT0 hb0 ⊢
                  have HZ := Lib.hid (show Below W.heap.size W Y0 from HBr.out.trans (hb0.mono HBr.out.size))
                  clear hy1 hy2 hy3 hy4 hys hb0 T0 hkz c0 p0 p1
                  have HW0 := Lib.hid (show WasT D w3 K H' us wr.heap.size cs ep 0 Y0 from by obtain ⟨F1, h1⟩ := HT0.out; exact ⟨F1, _, h1, fun i => by rw [if_neg (by omega)]⟩)
                  obtain ⟨bw, hbw⟩ : ∃ bw, wr.heap.size = bw := ⟨_, rfl⟩
                  rw [hbw] at HW0 ⊢
                  clear HT0 HP Pr HBs
                  go_wp2_with fail
                  clear hbw
                  go_loopw [87] (fun i wr => ∃ k : Nat, i = .int .i64 k ∧ k ≤ 24 ∧ Hid (WasT D w3 K H' us bw cs ep k wr)) (fun i _ => 24 - (intOf i).toNat)
                  case atStart => exact ⟨0, rfl, by decide, HW0⟩
                  case round =>
                    clear HW0 HZ
                    obtain ⟨k, rfl, hk24, hS⟩ := hrel
                    obtain ⟨F1, ss, hT, hss⟩ := hS.out
                    have HT := Lib.hid hT
                    have HSs := Lib.hid hss
                    have HBr := Lib.hid (HB3.out.trans (hT.play.unis.since.mono HB3.out.size))
                    obtain ⟨c0, _⟩ := hT.play.facts
                    obtain ⟨_, p0, p1, _⟩ := (P3.out.below hT.play.unis.since P3.out.lt).facts
                    clear hT hss hS
                    by_cases hlt : k < 24
                    · have i0 : (0 : Int) ≤ (k : Int) := by omega
                      have i1 : (k : Int) < 24 := by omega
                      obtain ⟨r, hr⟩ : ∃ r, readC14 allUp ep cs (k : Int) us = r := ⟨_, rfl⟩
                      have HRr := Lib.hid hr
                      have FR := Lib.hid (HF.out.read2 HPT.out (i := k) (by omega))
                      rw [hr] at FR
                      have HT1 := Lib.hid (HT.out.below HD.out (Below.refl _ wr).drew)
                      have CR := Lib.hid (HT1.out.tRead HD.out (HE.out.below HB3.out) (by omega) rfl E3.out E2.out ep (k : Int) r hr)
                      have HH6 := Lib.hid (fun (Y : World) (F6 : Nat → Nat → Prop) (us6 : Nat → UnitD) (hp : TrimS D w3 Y K F6 H' us6 (fun _ => newD) (90 + 3 * k + 3) bw ss) => show Y.cell? ⟨K.X, 0, none⟩ = some K.vu ∧ Y.cell? ⟨W.heap.size, 0, none⟩ = some (.int .i64 ep) ∧ Y.cell? ⟨W.heap.size, 1, none⟩ = some (.slice A cs.length c) from by
                        obtain ⟨c0, _⟩ := hp.play.facts
                        obtain ⟨_, p0, p1, _⟩ := (P3.out.below hp.play.unis.since P3.out.lt).facts
                        exact ⟨c0, p0, p1⟩)
                      have H1 := Lib.hid (HH6.out wr.drew F1 us (HT1.out.mono (by omega)))
                      clear hr
                      go_wp2_with fail
                      clear c0 p0 p1
                      go_region_held3 (fun Y => Y.cell? ⟨K.X, 0, none⟩ = some K.vu ∧ Y.cell? ⟨W.heap.size, 0, none⟩ = some (.int .i64 ep) ∧ Y.cell? ⟨W.heap.size, 1, none⟩ = some (.slice A cs.length c))
                        (first | exact H1.out | exact H8.out)
                        (first | (go_at_call 12; (with_reducible refine CR.out.mono ?_); rintro en w8 ⟨v8, y8, F8, rfl, hv8, hy8, hT8⟩; have H8 := Lib.hid (HH6.out w8 F8 _ hT8); have V8 := Lib.hid hv8; have Y8 := Lib.hid hy8; have T8 := Lib.hid hT8; clear hv8 hy8 hT8))
                      rename_i hh
                      clear hh CR H1 HH6 H8
                      obtain ⟨e1, hcase⟩ := FR.out
                      have T9 := Lib.hid (show TrimS D w3 w8 K F8 H' us (fun _ => newD) (90 + 3 * k + 3) bw ss from e1 ▸ T8.out)
                      rcases hcase with ⟨e2, e3⟩ | ⟨e2, e3⟩
                      · have hy : y8 = .nilIface := by
                          rcases Y8.out with ⟨_, h⟩ | ⟨m, _, h, _⟩
                          · exact h
                          · rw [e2] at h; cases h
                        subst hy
                        obtain ⟨A8, z8, rfl, _⟩ := V8.out.form
                        have cv8 := conv_bytes V8.out
                        obtain ⟨t0, t1⟩ := T9.out.cell (i := k) hlt
                        have HS2 := WasT.set HD.out T9.out HSs.out
                        rw [HRr.out] at HS2
                        have HS2 := Lib.hid HS2
                        clear e1 e2 e3
                        go_wp2_with fail
                        go_roundw
                        case rel => exact ⟨k + 1, by go_num, by omega, HS2⟩
                        case measure => simp [intOf]; omega
                      · have hy : y8 = errAt (a 9) := by
                          rcases Y8.out with ⟨h, _⟩ | ⟨m, _, h, h2⟩
                          · rw [e2] at h; cases h
                          · rw [e2] at h
                            have h : m = 9 := by omega
                            subst h; exact h2
                        subst hy
                        have HS2 := Lib.hid (WasT.skip T9.out HSs.out (by rw [HRr.out]; exact e3))
                        clear e1 e2 e3
                        go_wp2_with fail
                        go_roundw
                        case rel => exact ⟨k + 1, by go_num, by omega, HS2⟩
                        case measure => simp [intOf]; omega
                    · have hke : k = 24 := by omega
                      subst hke
                      have HT1 := Lib.hid (HT.out.below HD.out (Below.refl _ wr).drew)
                      obtain ⟨R, hR⟩ : ∃ R, trimC14 allUp ep cs (z : Int) us = R := ⟨_, rfl⟩
                      have TT := Lib.hid (trim_then HPT.out HF.out (tz := z) (by omega))
                      rw [hR] at TT
                      have CR := Lib.hid (HT1.out.tTrim HD.out (HE.out.below HB3.out) (by omega) rfl E3.out E2.out ep (z : Int) R hR)
                      have HH6 := Lib.hid (fun (Y : World) (M : Nat) (F6 : Nat → Nat → Prop) (us6 : Nat → UnitD) (hp : TrimS D w3 Y K F6 H' us6 (fun _ => newD) M bw ss) => show Y.cell? ⟨K.X, 0, none⟩ = some K.vu ∧ Y.cell? ⟨W.heap.size, 0, none⟩ = some (.int .i64 ep) ∧ Y.cell? ⟨W.heap.size, 1, none⟩ = some (.slice A cs.length c) from by
                        obtain ⟨c0, _⟩ := hp.play.facts
                        obtain ⟨_, p0, p1, _⟩ := (P3.out.below hp.play.unis.since P3.out.lt).facts
                        exact ⟨c0, p0, p1⟩)
                      have H1 := Lib.hid (HH6.out wr.drew _ F1 us HT1.out)
                      have HZ := Lib.hid (show z ≤ 4096 by omega)
                      clear hR
                      go_wp2_with fail
                      clear c0 p0 p1
                      go_region_held3 (fun Y => Y.cell? ⟨K.X, 0, none⟩ = some K.vu ∧ Y.cell? ⟨W.heap.size, 0, none⟩ = some (.int .i64 ep) ∧ Y.cell? ⟨W.heap.size, 1, none⟩ = some (.slice A cs.length c))
                        (first | exact H1.out | exact H8.out)
                        (first | (go_at_call 13; (with_reducible refine CR.out.mono ?_); rintro en w8 ⟨y8, F8, rfl, hy8, hT8⟩; have H8 := Lib.hid (HH6.out w8 _ F8 _ hT8); have Y8 := Lib.hid hy8; have T8 := Lib.hid hT8; clear hy8 hT8))
                      rename_i hh
                      clear hh CR H1 H8
                      rcases TT.out with e2 | ⟨e2, hAll⟩
                      · have hy : y8 = errAt (a 12) := by
                          rcases Y8.out with ⟨h, _⟩ | ⟨m, _, h, h2⟩
                          · rw [e2] at h; cases h
                          · rw [e2] at h
                            have h : m = 12 := by omega
                            subst h; exact h2
                        have CN := num_any a y8 R.2 w8 (HE.out.below (HB3.out.trans (T8.out.play.unis.since.mono HB3.out.size))) Y8.out
                        rw [e2] at CN
                        subst hy
                        have CN := Lib.hid CN
                        have HB8 := Lib.hid (HB3.out.trans (T8.out.play.unis.since.mono HB3.out.size))
                        clear e2
                        go_wp2_with fail
                        refine CN.out.mono ?_
                        rintro en w9 ⟨rfl, hb9⟩
                        have HB9 := Lib.hid (HB8.out.trans (hb9.mono HB8.out.size))
                        clear hb9 CN
                        go_wp2_with fail
                        go_ret
                        exact ⟨rfl, HB9.out⟩
                      · have hy : y8 = .nilIface := by
                          rcases Y8.out with ⟨_, h⟩ | ⟨m, _, h, _⟩
                          · exact h
                          · rw [e2] at h; cases h
                        subst hy
                        have HA := Lib.hid hAll
                        have HW0 := Lib.hid (show ∃ F6, TrimS D w3 w8 K F6 H' R.1 (fun _ => newD) (172 + 3 * 0) bw ss from ⟨F8, T8.out⟩)
                        clear e2 hAll
                        go_wp2_with fail
                        go_loopw [119] (fun i wr => ∃ k : Nat, i = .int .i64 k ∧ k ≤ 24 ∧ Hid (∃ F6, TrimS D w3 wr K F6 H' R.1 (fun _ => newD) (172 + 3 * k) bw ss)) (fun i _ => 24 - (intOf i).toNat)
                        case atStart => exact ⟨0, rfl, by decide, HW0⟩
                        case round =>
                          obtain ⟨k, rfl, hk24, hS⟩ := hrel
                          obtain ⟨F2, hT⟩ := hS.out
                          have HT2 := Lib.hid hT
                          have HBr := Lib.hid (HB3.out.trans (hT.play.unis.since.mono HB3.out.size))
                          obtain ⟨c0, p0, p1⟩ := HH6.out _ _ _ _ hT
                          clear hT hS
                          by_cases hlt : k < 24
                          · have i0 : (0 : Int) ≤ (k : Int) := by omega
                            have i1 : (k : Int) < 24 := by omega
                            have hr := HA.out k (by omega)
                            have HT3 := Lib.hid (HT2.out.below HD.out (Below.refl _ wr).drew)
                            have CR := Lib.hid (HT3.out.tRead HD.out (HE.out.below HB3.out) (by omega) rfl E3.out E2.out ep (k : Int) _ hr)
                            have H1 := Lib.hid (HH6.out wr.drew _ F2 R.1 HT3.out)
                            clear hr
                            go_wp2_with fail
                            clear c0 p0 p1
                            go_region_held3 (fun Y => Y.cell? ⟨K.X, 0, none⟩ = some K.vu ∧ Y.cell? ⟨W.heap.size, 0, none⟩ = some (.int .i64 ep) ∧ Y.cell? ⟨W.heap.size, 1, none⟩ = some (.slice A cs.length c))
                              (first | exact H1.out | exact H8.out)
                              (first | (go_at_call 12; (with_reducible refine CR.out.mono ?_); rintro en w9 ⟨v8, y8, F8, rfl, hv8, hy8, hT8⟩; have H8 := Lib.hid (HH6.out w9 _ F8 _ hT8); have V8 := Lib.hid hv8; have Y8 := Lib.hid hy8; have T9 := Lib.hid hT8; clear hv8 hy8 hT8))
                            rename_i hh
                            clear hh CR H1 H8
                            obtain ⟨t0, _⟩ := T9.out.cell (i := k) hlt
                            have t2 : w9.drew.cell? ⟨bw, k, none⟩ = some (.string (text (ss k))) := t0
                            have HS2 := Lib.hid (show ∃ F6, TrimS D w3 w9.drew K F6 H' R.1 (fun _ => newD) (172 + 3 * (k + 1)) bw ss from ⟨F8, (T9.out.below HD.out (Below.refl _ w9).drew).mono (by omega)⟩)
                            have HTk := Lib.hid (show ∀ Y, Below w9.heap.size w9 Y → ∃ F6, TrimS D w3 Y K F6 H' R.1 (fun _ => newD) (172 + 3 * (k + 1)) bw ss from fun Y hb => ⟨F8, (T9.out.below HD.out hb).mono (by omega)⟩)
                            by_cases hkz : k < z
                            · have hY : IsErr a y8 11 := by have := Y8.out; rw [if_pos hkz] at this; exact this
                              have i3 : (k : Int) < (z : Int) := by omega
                              have CN := Lib.hid (num_any a y8 11 w9.drew (HE.out.below (HB3.out.trans ((T9.out.below HD.out (Below.refl _ w9).drew).play.unis.since.mono HB3.out.size))) hY)
                              clear hY V8 Y8
                              go_wp2_with fail
                              refine wp_region_held_drew (S := (fun Y => Y.cell? ⟨bw, k, none⟩ = some (.string (text (ss k))))) (by kernel_rfl) t0 (fun hHeld => ?_)
                              refine takeH 0 132 (v := ?v1_0) rfl rfl (by kernel_rfl) (by kernel_rfl) (by kernel_rfl) (fun _ _ _ h => h) (Or.inl ⟨by rfl, ?h1_0⟩) hHeld ?r1_0
                              case h1_0 =>
                                intro w hSw
                                go_simp
                                try with_reducible rfl
                                try assumption
                              simp only [List.setIfInBounds_toArray, List.set_cons_zero, List.set_cons_succ]
                              refine takeH 1 133 (v := ?v1_1) rfl rfl (by kernel_rfl) (by kernel_rfl) (by kernel_rfl) (fun _ _ _ h => h) (Or.inl ⟨by rfl, ?h1_1⟩) hHeld ?r1_1
                              case h1_1 =>
                                intro w hSw
                                go_simp
                                try with_reducible rfl
                                try assumption
                              simp only [List.setIfInBounds_toArray, List.set_cons_zero, List.set_cons_succ]
                              refine takeH 2 134 (v := (.bool true)) rfl rfl (by kernel_rfl) (by kernel_rfl) (by kernel_rfl) (fun _ _ _ h => h) (Or.inl ⟨by rfl, ?h1_2⟩) hHeld ?r1_2
                              case h1_2 =>
                                intro w hSw
                                go_simp
                                try with_reducible rfl
                                try assumption
                              simp only [List.setIfInBounds_toArray, List.set_cons_zero, List.set_cons_succ]
                              refine takeH 3 135 (v := (.bool true)) rfl rfl (by kernel_rfl) (by kernel_rfl) (by kernel_rfl) (fun _ _ _ h => h) (Or.inl ⟨by rfl, ?h1_3⟩) hHeld ?r1_3
                              case h1_3 =>
                                intro w hSw
                                go_simp
                                try with_reducible rfl
                                try assumption
                              simp only [List.setIfInBounds_toArray, List.set_cons_zero, List.set_cons_succ]
                              refine takeH 4 136 (v := (y8)) rfl rfl (by kernel_rfl) (by kernel_rfl) (by kernel_rfl) (fun _ _ _ h => h) (Or.inl ⟨by rfl, ?h1_4⟩) hHeld ?r1_4
                              case h1_4 =>
                                intro w hSw
                                go_simp
                                try with_reducible rfl
                                try assumption
                              simp only [List.setIfInBounds_toArray, List.set_cons_zero, List.set_cons_succ]
                              refine wpAnyH_ready (rs := [5]) (by kernel_rfl) (by simp) ?_
                              refine AllReadyH.cons rfl (fun K9 hK => ?_) AllReadyH.nil
                              go_simp
                              (with_reducible refine CN.out.mono ?_)
                              rintro en w10 ⟨rfl, hb10⟩
                              have HS3 := Lib.hid (HTk.out w10 ((Below.refl w9.heap.size w9).drew.trans hb10))
                              have t3 : w10.cell? ⟨bw, k, none⟩ = some (.string (text (ss k))) := carry hb10 t2
                              refine hK.out _ _ t3 (fun hHeld => ?_)
                              clear hK K9 hb10 t0 t2
                              refine takeH 6 138 (v := (.bool false)) rfl rfl (by kernel_rfl) (by kernel_rfl) (by kernel_rfl) (fun _ _ _ h => h) (Or.inl ⟨by rfl, ?h1_6⟩) hHeld ?r1_6
                              case h1_6 =>
                                intro w hSw
                                go_simp
                                try with_reducible rfl
                                try assumption
                              simp only [List.setIfInBounds_toArray, List.set_cons_zero, List.set_cons_succ]
                              refine takeH 7 139 (v := (.bool false)) rfl rfl (by kernel_rfl) (by kernel_rfl) (by kernel_rfl) (fun _ _ _ h => h) (Or.inl ⟨by rfl, ?h1_7⟩) hHeld ?r1_7
                              case h1_7 =>
                                intro w hSw
                                go_simp
                                try with_reducible rfl
                                try assumption
                              simp only [List.setIfInBounds_toArray, List.set_cons_zero, List.set_cons_succ]
                              refine takeH 8 140 (v := (.bool false)) rfl rfl (by kernel_rfl) (by kernel_rfl) (by kernel_rfl) (fun _ _ _ h => h) (Or.inl ⟨by rfl, ?h1_8⟩) hHeld ?r1_8
                              case h1_8 =>
                                intro w hSw
                                go_simp
                                try with_reducible rfl
                                try assumption
                              simp only [List.setIfInBounds_toArray, List.set_cons_zero, List.set_cons_succ]
                              refine takeH 9 141 (v := ?v1_9) rfl rfl (by kernel_rfl) (by kernel_rfl) (by kernel_rfl) (fun _ _ _ h => h) (Or.inl ⟨by rfl, ?h1_9⟩) hHeld ?r1_9
                              case h1_9 =>
                                intro w hSw
                                go_simp
                                try with_reducible rfl
                                try assumption
                              simp only [List.setIfInBounds_toArray, List.set_cons_zero, List.set_cons_succ]
                              refine takeH 10 142 (v := ?v1_10) rfl rfl (by kernel_rfl) (by kernel_rfl) (by kernel_rfl) (fun _ _ _ h => h) (Or.inl ⟨by rfl, ?h1_10⟩) hHeld ?r1_10
                              case h1_10 =>
                                intro w hSw
                                go_simp
                                try with_reducible rfl
                                try assumption
                              simp only [List.setIfInBounds_toArray, List.set_cons_zero, List.set_cons_succ]
                              refine takeH 11 143 (v := (.bool false)) rfl rfl (by kernel_rfl) (by kernel_rfl) (by kernel_rfl) (fun _ _ _ h => h) (Or.inl ⟨by rfl, ?h1_11⟩) hHeld ?r1_11
                              case h1_11 =>
                                intro w hSw
                                go_simp
                                try with_reducible rfl
                                try assumption
                              simp only [List.setIfInBounds_toArray, List.set_cons_zero, List.set_cons_succ]
                              refine takeH 12 144 (v := (.bool false)) rfl rfl (by kernel_rfl) (by kernel_rfl) (by kernel_rfl) (fun _ _ _ h => h) (Or.inl ⟨by rfl, ?h1_12⟩) hHeld ?r1_12
                              case h1_12 =>
                                intro w hSw
                                go_simp
                                try with_reducible rfl
                                try assumption
                              simp only [List.setIfInBounds_toArray, List.set_cons_zero, List.set_cons_succ]
                              refine takeH 13 145 (v := undef) rfl rfl (by kernel_rfl) (by kernel_rfl) (by kernel_rfl) (fun _ _ _ h => h) (Or.inr ⟨by rfl, rfl⟩) hHeld ?_
                              simp only [List.setIfInBounds_toArray, List.set_cons_zero, List.set_cons_succ]
                              refine takeH 14 146 (v := undef) rfl rfl (by kernel_rfl) (by kernel_rfl) (by kernel_rfl) (fun _ _ _ h => h) (Or.inr ⟨by rfl, rfl⟩) hHeld ?_
                              simp only [List.setIfInBounds_toArray, List.set_cons_zero, List.set_cons_succ]
                              refine takeH 15 147 (v := undef) rfl rfl (by kernel_rfl) (by kernel_rfl) (by kernel_rfl) (fun _ _ _ h => h) (Or.inr ⟨by rfl, rfl⟩) hHeld ?_
                              simp only [List.setIfInBounds_toArray, List.set_cons_zero, List.set_cons_succ]
                              refine takeH 16 148 (v := undef) rfl rfl (by kernel_rfl) (by kernel_rfl) (by kernel_rfl) (fun _ _ _ h => h) (Or.inr ⟨by rfl, rfl⟩) hHeld ?_
                              simp only [List.setIfInBounds_toArray, List.set_cons_zero, List.set_cons_succ]
                              refine takeH 17 149 (v := undef) rfl rfl (by kernel_rfl) (by kernel_rfl) (by kernel_rfl) (fun _ _ _ h => h) (Or.inr ⟨by rfl, rfl⟩) hHeld ?_
                              simp only [List.setIfInBounds_toArray, List.set_cons_zero, List.set_cons_succ]
                              refine takeH 18 150 (v := undef) rfl rfl (by kernel_rfl) (by kernel_rfl) (by kernel_rfl) (fun _ _ _ h => h) (Or.inr ⟨by rfl, rfl⟩) hHeld ?_
                              simp only [List.setIfInBounds_toArray, List.set_cons_zero, List.set_cons_succ]
                              refine takeH 19 151 (v := undef) rfl rfl (by kernel_rfl) (by kernel_rfl) (by kernel_rfl) (fun _ _ _ h => h) (Or.inr ⟨by rfl, rfl⟩) hHeld ?_
                              simp only [List.setIfInBounds_toArray, List.set_cons_zero, List.set_cons_succ]
                              refine takeH 20 152 (v := undef) rfl rfl (by kernel_rfl) (by kernel_rfl) (by kernel_rfl) (fun _ _ _ h => h) (Or.inr ⟨by rfl, rfl⟩) hHeld ?_
                              simp only [List.setIfInBounds_toArray, List.set_cons_zero, List.set_cons_succ]
                              refine takeH 21 153 (v := undef) rfl rfl (by kernel_rfl) (by kernel_rfl) (by kernel_rfl) (fun _ _ _ h => h) (Or.inr ⟨by rfl, rfl⟩) hHeld ?_
                              simp only [List.setIfInBounds_toArray, List.set_cons_zero, List.set_cons_succ]
                              refine takeH 22 154 (v := undef) rfl rfl (by kernel_rfl) (by kernel_rfl) (by kernel_rfl) (fun _ _ _ h => h) (Or.inr ⟨by rfl, rfl⟩) hHeld ?_
                              simp only [List.setIfInBounds_toArray, List.set_cons_zero, List.set_cons_succ]
                              refine takeH 23 155 (v := undef) rfl rfl (by kernel_rfl) (by kernel_rfl) (by kernel_rfl) (fun _ _ _ h => h) (Or.inr ⟨by rfl, rfl⟩) hHeld ?_
                              simp only [List.setIfInBounds_toArray, List.set_cons_zero, List.set_cons_succ]
                              refine takeH 24 156 (v := undef) rfl rfl (by kernel_rfl) (by kernel_rfl) (by kernel_rfl) (fun _ _ _ h => h) (Or.inr ⟨by rfl, rfl⟩) hHeld ?_
                              simp only [List.setIfInBounds_toArray, List.set_cons_zero, List.set_cons_succ]
                              refine takeH 25 157 (v := undef) rfl rfl (by kernel_rfl) (by kernel_rfl) (by kernel_rfl) (fun _ _ _ h => h) (Or.inr ⟨by rfl, rfl⟩) hHeld ?_
                              simp only [List.setIfInBounds_toArray, List.set_cons_zero, List.set_cons_succ]
                              refine takeH 26 158 (v := undef) rfl rfl (by kernel_rfl) (by kernel_rfl) (by kernel_rfl) (fun _ _ _ h => h) (Or.inr ⟨by rfl, rfl⟩) hHeld ?_
                              simp only [List.setIfInBounds_toArray, List.set_cons_zero, List.set_cons_succ]
                              refine takeH 27 159 (v := undef) rfl rfl (by kernel_rfl) (by kernel_rfl) (by kernel_rfl) (fun _ _ _ h => h) (Or.inr ⟨by rfl, rfl⟩) hHeld ?_
                              simp only [List.setIfInBounds_toArray, List.set_cons_zero, List.set_cons_succ]
                              refine takeH 28 160 (v := (.bool false)) rfl rfl (by kernel_rfl) (by kernel_rfl) (by kernel_rfl) (fun _ _ _ h => h) (Or.inl ⟨by rfl, ?h1_28⟩) hHeld ?r1_28
                              case h1_28 =>
                                intro w hSw
                                go_simp
                                try with_reducible rfl
                                try assumption
                              simp only [List.setIfInBounds_toArray, List.set_cons_zero, List.set_cons_succ]
                              refine takeH 29 161 (v := (.bool false)) rfl rfl (by kernel_rfl) (by kernel_rfl) (by kernel_rfl) (fun _ _ _ h => h) (Or.inl ⟨by rfl, ?h1_29⟩) hHeld ?r1_29
                              case h1_29 =>
                                intro w hSw
                                go_simp
                                try with_reducible rfl
                                try assumption
                              simp only [List.setIfInBounds_toArray, List.set_cons_zero, List.set_cons_succ]
                              refine wpAnyH_done (by kernel_rfl) ?_ _
                              go_wp2_with fail
                              go_roundw
                              case rel => exact ⟨k + 1, by go_num, by omega, HS3⟩
                              case measure => simp [intOf]; omega
                            · have i3 : (z : Int) ≤ (k : Int) := by omega
                              have hr0 : (if k < z then (([], 11) : List UInt8 × Nat) else (readC14 allUp ep cs (k : Int) us).2) = (readC14 allUp ep cs (k : Int) us).2 := if_neg hkz
                              have hV : Bytes w9 w9.heap.size v8 (ss k) := by
                                have := V8.out
                                rw [HSs.out k, if_pos hlt]
                                rw [hr0] at this
                                exact this
                              have hY : IsErr a y8 (readC14 allUp ep cs (k : Int) us).2.2 := by have := Y8.out; rw [hr0] at this; exact this
                              obtain ⟨A8, z8, rfl, _⟩ := hV.form
                              have cv8 := conv_bytes (show Bytes w9.drew w9.drew.heap.size _ (ss k) from hV.below (Below.refl _ w9).drew)
                              obtain ⟨_, hcase⟩ := HF.out.read2 HPT.out (i := k) (by omega)
                              have hsk : ss k = (readC14 allUp ep cs (k : Int) us).2.1 := by rw [HSs.out k, if_pos hlt]
                              rw [← hsk] at hcase
                              have Y8 := Lib.hid hY
                              have hkz : z ≤ k := by omega
                              clear hV hY hr0 hsk V8
                              rcases hcase with ⟨e2, e3⟩ | ⟨e2, e3⟩
                              · have hy : y8 = .nilIface := by
                                  rcases Y8.out with ⟨_, h⟩ | ⟨m, _, h, _⟩
                                  · exact h
                                  · rw [e2] at h; cases h
                                subst hy
                                have hne : ¬(text (ss k)).toList = [] := by rw [ByteArray.toList_eq]; simpa [text] using e3
                                clear e2 e3
                                go_wp2_with fail
                                refine wp_region_held_drew (S := (fun Y => Y.cell? ⟨bw, k, none⟩ = some (.string (text (ss k))) ∧ (convert 47 9 (.slice A8 (ss k).length z8)).run Tryz.prog Y = .ok (.string (text (ss k))) Y)) (by kernel_rfl) ⟨t0, cv8⟩ (fun hHeld => ?_)
                                refine takeH 0 132 (v := ?v2_0) rfl rfl (by kernel_rfl) (by kernel_rfl) (by kernel_rfl) (fun _ _ _ h => h) (Or.inl ⟨by rfl, ?h2_0⟩) hHeld ?r2_0
                                case h2_0 =>
                                  intro w hSw
                                  obtain ⟨hSw1, hSw2⟩ := hSw
                                  go_simp
                                  try with_reducible rfl
                                  try assumption
                                simp only [List.setIfInBounds_toArray, List.set_cons_zero, List.set_cons_succ]
                                refine takeH 1 133 (v := ?v2_1) rfl rfl (by kernel_rfl) (by kernel_rfl) (by kernel_rfl) (fun _ _ _ h => h) (Or.inl ⟨by rfl, ?h2_1⟩) hHeld ?r2_1
                                case h2_1 =>
                                  intro w hSw
                                  obtain ⟨hSw1, hSw2⟩ := hSw
                                  go_simp
                                  try with_reducible rfl
                                  try assumption
                                simp only [List.setIfInBounds_toArray, List.set_cons_zero, List.set_cons_succ]
                                refine takeH 2 134 (v := (.bool false)) rfl rfl (by kernel_rfl) (by kernel_rfl) (by kernel_rfl) (fun _ _ _ h => h) (Or.inl ⟨by rfl, ?h2_2⟩) hHeld ?r2_2
                                case h2_2 =>
                                  intro w hSw
                                  obtain ⟨hSw1, hSw2⟩ := hSw
                                  go_simp
                                  try with_reducible rfl
                                  try assumption
                                simp only [List.setIfInBounds_toArray, List.set_cons_zero, List.set_cons_succ]
                                refine takeH 3 135 (v := (.bool false)) rfl rfl (by kernel_rfl) (by kernel_rfl) (by kernel_rfl) (fun _ _ _ h => h) (Or.inl ⟨by rfl, ?h2_3⟩) hHeld ?r2_3
                                case h2_3 =>
                                  intro w hSw
                                  obtain ⟨hSw1, hSw2⟩ := hSw
                                  go_simp
                                  try with_reducible rfl
                                  try assumption
                                simp only [List.setIfInBounds_toArray, List.set_cons_zero, List.set_cons_succ]
                                refine takeH 4 136 (v := undef) rfl rfl (by kernel_rfl) (by kernel_rfl) (by kernel_rfl) (fun _ _ _ h => h) (Or.inr ⟨by rfl, rfl⟩) hHeld ?_
                                simp only [List.setIfInBounds_toArray, List.set_cons_zero, List.set_cons_succ]
                                refine takeH 5 137 (v := undef) rfl rfl (by kernel_rfl) (by kernel_rfl) (by kernel_rfl) (fun _ _ _ h => h) (Or.inr ⟨by rfl, rfl⟩) hHeld ?_
                                simp only [List.setIfInBounds_toArray, List.set_cons_zero, List.set_cons_succ]
                                refine takeH 6 138 (v := undef) rfl rfl (by kernel_rfl) (by kernel_rfl) (by kernel_rfl) (fun _ _ _ h => h) (Or.inr ⟨by rfl, rfl⟩) hHeld ?_
                                simp only [List.setIfInBounds_toArray, List.set_cons_zero, List.set_cons_succ]
                                refine takeH 7 139 (v := (.bool false)) rfl rfl (by kernel_rfl) (by kernel_rfl) (by kernel_rfl) (fun _ _ _ h => h) (Or.inl ⟨by rfl, ?h2_7⟩) hHeld ?r2_7
                                case h2_7 =>
                                  intro w hSw
                                  obtain ⟨hSw1, hSw2⟩ := hSw
                                  go_simp
                                  try with_reducible rfl
                                  try assumption
                                simp only [List.setIfInBounds_toArray, List.set_cons_zero, List.set_cons_succ]
                                refine takeH 8 140 (v := (.bool false)) rfl rfl (by kernel_rfl) (by kernel_rfl) (by kernel_rfl) (fun _ _ _ h => h) (Or.inl ⟨by rfl, ?h2_8⟩) hHeld ?r2_8
                                case h2_8 =>
                                  intro w hSw
                                  obtain ⟨hSw1, hSw2⟩ := hSw
                                  go_simp
                                  try with_reducible rfl
                                  try assumption
                                simp only [List.setIfInBounds_toArray, List.set_cons_zero, List.set_cons_succ]
                                refine takeH 9 141 (v := ?v2_9) rfl rfl (by kernel_rfl) (by kernel_rfl) (by kernel_rfl) (fun _ _ _ h => h) (Or.inl ⟨by rfl, ?h2_9⟩) hHeld ?r2_9
                                case h2_9 =>
                                  intro w hSw
                                  obtain ⟨hSw1, hSw2⟩ := hSw
                                  go_simp
                                  try with_reducible rfl
                                  try assumption
                                simp only [List.setIfInBounds_toArray, List.set_cons_zero, List.set_cons_succ]
                                refine takeH 10 142 (v := ?v2_10) rfl rfl (by kernel_rfl) (by kernel_rfl) (by kernel_rfl) (fun _ _ _ h => h) (Or.inl ⟨by rfl, ?h2_10⟩) hHeld ?r2_10
                                case h2_10 =>
                                  intro w hSw
                                  obtain ⟨hSw1, hSw2⟩ := hSw
                                  go_simp
                                  try with_reducible rfl
                                  try assumption
                                simp only [List.setIfInBounds_toArray, List.set_cons_zero, List.set_cons_succ]
                                refine takeH 11 143 (v := (.bool true)) rfl rfl (by kernel_rfl) (by kernel_rfl) (by kernel_rfl) (fun _ _ _ h => h) (Or.inl ⟨by rfl, ?h2_11⟩) hHeld ?r2_11
                                case h2_11 =>
                                  intro w hSw
                                  obtain ⟨hSw1, hSw2⟩ := hSw
                                  go_simp
                                  try with_reducible rfl
                                  try assumption
                                simp only [List.setIfInBounds_toArray, List.set_cons_zero, List.set_cons_succ]
                                refine takeH 12 144 (v := (.bool true)) rfl rfl (by kernel_rfl) (by kernel_rfl) (by kernel_rfl) (fun _ _ _ h => h) (Or.inl ⟨by rfl, ?h2_12⟩) hHeld ?r2_12
                                case h2_12 =>
                                  intro w hSw
                                  obtain ⟨hSw1, hSw2⟩ := hSw
                                  go_simp
                                  try with_reducible rfl
                                  try assumption
                                simp only [List.setIfInBounds_toArray, List.set_cons_zero, List.set_cons_succ]
                                refine takeH 13 145 (v := ?v2_13) rfl rfl (by kernel_rfl) (by kernel_rfl) (by kernel_rfl) (fun _ _ _ h => h) (Or.inl ⟨by rfl, ?h2_13⟩) hHeld ?r2_13
                                case h2_13 =>
                                  intro w hSw
                                  obtain ⟨hSw1, hSw2⟩ := hSw
                                  go_simp
                                  try with_reducible rfl
                                  try assumption
                                simp only [List.setIfInBounds_toArray, List.set_cons_zero, List.set_cons_succ]
                                refine takeH 14 146 (v := (.string (text (ss k)))) rfl rfl (by kernel_rfl) (by kernel_rfl) (by kernel_rfl) (fun _ _ _ h => h) (Or.inl ⟨by rfl, ?h2_14⟩) hHeld ?r2_14
                                case h2_14 =>
                                  intro w hSw
                                  obtain ⟨hSw1, hSw2⟩ := hSw
                                  go_simp
                                  try with_reducible rfl
                                  try assumption
                                simp only [List.setIfInBounds_toArray, List.set_cons_zero, List.set_cons_succ]
                                refine takeH 15 147 (v := ?v2_15) rfl rfl (by kernel_rfl) (by kernel_rfl) (by kernel_rfl) (fun _ _ _ h => h) (Or.inl ⟨by rfl, ?h2_15⟩) hHeld ?r2_15
                                case h2_15 =>
                                  intro w hSw
                                  obtain ⟨hSw1, hSw2⟩ := hSw
                                  go_simp
                                  try with_reducible rfl
                                  try assumption
                                simp only [List.setIfInBounds_toArray, List.set_cons_zero, List.set_cons_succ]
                                refine takeH 16 148 (v := ?v2_16) rfl rfl (by kernel_rfl) (by kernel_rfl) (by kernel_rfl) (fun _ _ _ h => h) (Or.inl ⟨by rfl, ?h2_16⟩) hHeld ?r2_16
                                case h2_16 =>
                                  intro w hSw
                                  obtain ⟨hSw1, hSw2⟩ := hSw
                                  go_simp
                                  try with_reducible rfl
                                  try assumption
                                simp only [List.setIfInBounds_toArray, List.set_cons_zero, List.set_cons_succ]
                                refine takeH 17 149 (v := (.string (text (ss k)))) rfl rfl (by kernel_rfl) (by kernel_rfl) (by kernel_rfl) (fun _ _ _ h => h) (Or.inl ⟨by rfl, ?h2_17⟩) hHeld ?r2_17
                                case h2_17 =>
                                  intro w hSw
                                  obtain ⟨hSw1, hSw2⟩ := hSw
                                  go_simp
                                  try with_reducible rfl
                                  try assumption
                                simp only [List.setIfInBounds_toArray, List.set_cons_zero, List.set_cons_succ]
                                refine takeH 18 150 (v := (.bool false)) rfl rfl (by kernel_rfl) (by kernel_rfl) (by kernel_rfl) (fun _ _ _ h => h) (Or.inl ⟨by rfl, ?h2_18⟩) hHeld ?r2_18
                                case h2_18 =>
                                  intro w hSw
                                  obtain ⟨hSw1, hSw2⟩ := hSw
                                  go_simp
                                  try with_reducible rfl
                                  try assumption
                                simp only [List.setIfInBounds_toArray, List.set_cons_zero, List.set_cons_succ]
                                refine takeH 19 151 (v := (.bool false)) rfl rfl (by kernel_rfl) (by kernel_rfl) (by kernel_rfl) (fun _ _ _ h => h) (Or.inl ⟨by rfl, ?h2_19⟩) hHeld ?r2_19
                                case h2_19 =>
                                  intro w hSw
                                  obtain ⟨hSw1, hSw2⟩ := hSw
                                  go_simp
                                  try with_reducible rfl
                                  try assumption
                                simp only [List.setIfInBounds_toArray, List.set_cons_zero, List.set_cons_succ]
                                refine takeH 20 152 (v := ?v2_20) rfl rfl (by kernel_rfl) (by kernel_rfl) (by kernel_rfl) (fun _ _ _ h => h) (Or.inl ⟨by rfl, ?h2_20⟩) hHeld ?r2_20
                                case h2_20 =>
                                  intro w hSw
                                  obtain ⟨hSw1, hSw2⟩ := hSw
                                  go_simp
                                  try with_reducible rfl
                                  try assumption
                                simp only [List.setIfInBounds_toArray, List.set_cons_zero, List.set_cons_succ]
                                refine takeH 21 153 (v := (.bool true)) rfl rfl (by kernel_rfl) (by kernel_rfl) (by kernel_rfl) (fun _ _ _ h => h) (Or.inl ⟨by rfl, ?h2_21⟩) hHeld ?r2_21
                                case h2_21 =>
                                  intro w hSw
                                  obtain ⟨hSw1, hSw2⟩ := hSw
                                  go_simp
                                  try with_reducible rfl
                                  try assumption
                                simp only [List.setIfInBounds_toArray, List.set_cons_zero, List.set_cons_succ]
                                refine takeH 22 154 (v := ?v2_22) rfl rfl (by kernel_rfl) (by kernel_rfl) (by kernel_rfl) (fun _ _ _ h => h) (Or.inl ⟨by rfl, ?h2_22⟩) hHeld ?r2_22
                                case h2_22 =>
                                  intro w hSw
                                  obtain ⟨hSw1, hSw2⟩ := hSw
                                  go_simp
                                  try with_reducible rfl
                                  try assumption
                                simp only [List.setIfInBounds_toArray, List.set_cons_zero, List.set_cons_succ]
                                refine takeH 23 155 (v := ?v2_23) rfl rfl (by kernel_rfl) (by kernel_rfl) (by kernel_rfl) (fun _ _ _ h => h) (Or.inl ⟨by rfl, ?h2_23⟩) hHeld ?r2_23
                                case h2_23 =>
                                  intro w hSw
                                  obtain ⟨hSw1, hSw2⟩ := hSw
                                  go_simp
                                  try with_reducible rfl
                                  try assumption
                                simp only [List.setIfInBounds_toArray, List.set_cons_zero, List.set_cons_succ]
                                refine takeH 24 156 (v := (.string (text (ss k)))) rfl rfl (by kernel_rfl) (by kernel_rfl) (by kernel_rfl) (fun _ _ _ h => h) (Or.inl ⟨by rfl, ?h2_24⟩) hHeld ?r2_24
                                case h2_24 =>
                                  intro w hSw
                                  obtain ⟨hSw1, hSw2⟩ := hSw
                                  go_simp
                                  try with_reducible rfl
                                  try assumption
                                simp only [List.setIfInBounds_toArray, List.set_cons_zero, List.set_cons_succ]
                                refine takeH 25 157 (v := (.bool true)) rfl rfl (by kernel_rfl) (by kernel_rfl) (by kernel_rfl) (fun _ _ _ h => h) (Or.inl ⟨by rfl, ?h2_25⟩) hHeld ?r2_25
                                case h2_25 =>
                                  intro w hSw
                                  obtain ⟨hSw1, hSw2⟩ := hSw
                                  go_simp
                                  try with_reducible rfl
                                  try assumption
                                simp only [List.setIfInBounds_toArray, List.set_cons_zero, List.set_cons_succ]
                                refine takeH 26 158 (v := (.bool false)) rfl rfl (by kernel_rfl) (by kernel_rfl) (by kernel_rfl) (fun _ _ _ h => h) (Or.inl ⟨by rfl, ?h2_26⟩) hHeld ?r2_26
                                case h2_26 =>
                                  intro w hSw
                                  obtain ⟨hSw1, hSw2⟩ := hSw
                                  go_simp
                                  try with_reducible rfl
                                  try assumption
                                simp only [List.setIfInBounds_toArray, List.set_cons_zero, List.set_cons_succ]
                                refine takeH 27 159 (v := (.bool false)) rfl rfl (by kernel_rfl) (by kernel_rfl) (by kernel_rfl) (fun _ _ _ h => h) (Or.inl ⟨by rfl, ?h2_27⟩) hHeld ?r2_27
                                case h2_27 =>
                                  intro w hSw
                                  obtain ⟨hSw1, hSw2⟩ := hSw
                                  go_simp
                                  try with_reducible rfl
                                  try assumption
                                simp only [List.setIfInBounds_toArray, List.set_cons_zero, List.set_cons_succ]
                                refine takeH 28 160 (v := (.bool false)) rfl rfl (by kernel_rfl) (by kernel_rfl) (by kernel_rfl) (fun _ _ _ h => h) (Or.inl ⟨by rfl, ?h2_28⟩) hHeld ?r2_28
                                case h2_28 =>
                                  intro w hSw
                                  obtain ⟨hSw1, hSw2⟩ := hSw
                                  go_simp
                                  try with_reducible rfl
                                  try assumption
                                simp only [List.setIfInBounds_toArray, List.set_cons_zero, List.set_cons_succ]
                                refine takeH 29 161 (v := (.bool false)) rfl rfl (by kernel_rfl) (by kernel_rfl) (by kernel_rfl) (fun _ _ _ h => h) (Or.inl ⟨by rfl, ?h2_29⟩) hHeld ?r2_29
                                case h2_29 =>
                                  intro w hSw
                                  obtain ⟨hSw1, hSw2⟩ := hSw
                                  go_simp
                                  try with_reducible rfl
                                  try assumption
                                simp only [List.setIfInBounds_toArray, List.set_cons_zero, List.set_cons_succ]
                                refine wpAnyH_done (by kernel_rfl) ?_ _
                                go_wp2_with fail
                                go_roundw
                                case rel => exact ⟨k + 1, by go_num, by omega, HS2⟩
                                case measure => simp [intOf]; omega
                              · have hy : y8 = errAt (a 9) := by
                                  rcases Y8.out with ⟨h, _⟩ | ⟨m, _, h, h2⟩
                                  · rw [e2] at h; cases h
                                  · rw [e2] at h
                                    have h : m = 9 := by omega
                                    subst h; exact h2
                                subst hy
                                have hne : (text (ss k)).toList = [] := by rw [ByteArray.toList_eq, e3]; rfl
                                clear e2 e3
                                go_wp2_with fail
                                refine wp_region_held_drew (S := (fun Y => Y.cell? ⟨bw, k, none⟩ = some (.string (text (ss k))) ∧ (convert 47 9 (.slice A8 (ss k).length z8)).run Tryz.prog Y = .ok (.string (text (ss k))) Y)) (by kernel_rfl) ⟨t0, cv8⟩ (fun hHeld => ?_)
                                refine takeH 0 132 (v := ?v3_0) rfl rfl (by kernel_rfl) (by kernel_rfl) (by kernel_rfl) (fun _ _ _ h => h) (Or.inl ⟨by rfl, ?h3_0⟩) hHeld ?r3_0
                                case h3_0 =>
                                  intro w hSw
                                  obtain ⟨hSw1, hSw2⟩ := hSw
                                  go_simp
                                  try with_reducible rfl
                                  try assumption
                                simp only [List.setIfInBounds_toArray, List.set_cons_zero, List.set_cons_succ]
                                refine takeH 1 133 (v := ?v3_1) rfl rfl (by kernel_rfl) (by kernel_rfl) (by kernel_rfl) (fun _ _ _ h => h) (Or.inl ⟨by rfl, ?h3_1⟩) hHeld ?r3_1
                                case h3_1 =>
                                  intro w hSw
                                  obtain ⟨hSw1, hSw2⟩ := hSw
                                  go_simp
                                  try with_reducible rfl
                                  try assumption
                                simp only [List.setIfInBounds_toArray, List.set_cons_zero, List.set_cons_succ]
                                refine takeH 2 134 (v := (.bool false)) rfl rfl (by kernel_rfl) (by kernel_rfl) (by kernel_rfl) (fun _ _ _ h => h) (Or.inl ⟨by rfl, ?h3_2⟩) hHeld ?r3_2
                                case h3_2 =>
                                  intro w hSw
                                  obtain ⟨hSw1, hSw2⟩ := hSw
                                  go_simp
                                  try with_reducible rfl
                                  try assumption
                                simp only [List.setIfInBounds_toArray, List.set_cons_zero, List.set_cons_succ]
                                refine takeH 3 135 (v := (.bool false)) rfl rfl (by kernel_rfl) (by kernel_rfl) (by kernel_rfl) (fun _ _ _ h => h) (Or.inl ⟨by rfl, ?h3_3⟩) hHeld ?r3_3
                                case h3_3 =>
                                  intro w hSw
                                  obtain ⟨hSw1, hSw2⟩ := hSw
                                  go_simp
                                  try with_reducible rfl
                                  try assumption
                                simp only [List.setIfInBounds_toArray, List.set_cons_zero, List.set_cons_succ]
                                refine takeH 4 136 (v := undef) rfl rfl (by kernel_rfl) (by kernel_rfl) (by kernel_rfl) (fun _ _ _ h => h) (Or.inr ⟨by rfl, rfl⟩) hHeld ?_
                                simp only [List.setIfInBounds_toArray, List.set_cons_zero, List.set_cons_succ]
                                refine takeH 5 137 (v := undef) rfl rfl (by kernel_rfl) (by kernel_rfl) (by kernel_rfl) (fun _ _ _ h => h) (Or.inr ⟨by rfl, rfl⟩) hHeld ?_
                                simp only [List.setIfInBounds_toArray, List.set_cons_zero, List.set_cons_succ]
                                refine takeH 6 138 (v := undef) rfl rfl (by kernel_rfl) (by kernel_rfl) (by kernel_rfl) (fun _ _ _ h => h) (Or.inr ⟨by rfl, rfl⟩) hHeld ?_
                                simp only [List.setIfInBounds_toArray, List.set_cons_zero, List.set_cons_succ]
                                refine takeH 7 139 (v := (.bool false)) rfl rfl (by kernel_rfl) (by kernel_rfl) (by kernel_rfl) (fun _ _ _ h => h) (Or.inl ⟨by rfl, ?h3_7⟩) hHeld ?r3_7
                                case h3_7 =>
                                  intro w hSw
                                  obtain ⟨hSw1, hSw2⟩ := hSw
                                  go_simp
                                  try with_reducible rfl
                                  try assumption
                                simp only [List.setIfInBounds_toArray, List.set_cons_zero, List.set_cons_succ]
                                refine takeH 8 140 (v := (.bool false)) rfl rfl (by kernel_rfl) (by kernel_rfl) (by kernel_rfl) (fun _ _ _ h => h) (Or.inl ⟨by rfl, ?h3_8⟩) hHeld ?r3_8
                                case h3_8 =>
                                  intro w hSw
                                  obtain ⟨hSw1, hSw2⟩ := hSw
                                  go_simp
                                  try with_reducible rfl
                                  try assumption
                                simp only [List.setIfInBounds_toArray, List.set_cons_zero, List.set_cons_succ]
                                refine takeH 9 141 (v := ?v3_9) rfl rfl (by kernel_rfl) (by kernel_rfl) (by kernel_rfl) (fun _ _ _ h => h) (Or.inl ⟨by rfl, ?h3_9⟩) hHeld ?r3_9
                                case h3_9 =>
                                  intro w hSw
                                  obtain ⟨hSw1, hSw2⟩ := hSw
                                  go_simp
                                  try with_reducible rfl
                                  try assumption
                                simp only [List.setIfInBounds_toArray, List.set_cons_zero, List.set_cons_succ]
                                refine takeH 10 142 (v := ?v3_10) rfl rfl (by kernel_rfl) (by kernel_rfl) (by kernel_rfl) (fun _ _ _ h => h) (Or.inl ⟨by rfl, ?h3_10⟩) hHeld ?r3_10
                                case h3_10 =>
                                  intro w hSw
                                  obtain ⟨hSw1, hSw2⟩ := hSw
                                  go_simp
                                  try with_reducible rfl
                                  try assumption
                                simp only [List.setIfInBounds_toArray, List.set_cons_zero, List.set_cons_succ]
                                refine takeH 11 143 (v := (.bool true)) rfl rfl (by kernel_rfl) (by kernel_rfl) (by kernel_rfl) (fun _ _ _ h => h) (Or.inl ⟨by rfl, ?h3_11⟩) hHeld ?r3_11
                                case h3_11 =>
                                  intro w hSw
                                  obtain ⟨hSw1, hSw2⟩ := hSw
                                  go_simp
                                  try with_reducible rfl
                                  try assumption
                                simp only [List.setIfInBounds_toArray, List.set_cons_zero, List.set_cons_succ]
                                refine takeH 12 144 (v := (.bool true)) rfl rfl (by kernel_rfl) (by kernel_rfl) (by kernel_rfl) (fun _ _ _ h => h) (Or.inl ⟨by rfl, ?h3_12⟩) hHeld ?r3_12
                                case h3_12 =>
                                  intro w hSw
                                  obtain ⟨hSw1, hSw2⟩ := hSw
                                  go_simp
                                  try with_reducible rfl
                                  try assumption
                                simp only [List.setIfInBounds_toArray, List.set_cons_zero, List.set_cons_succ]
                                refine takeH 13 145 (v := ?v3_13) rfl rfl (by kernel_rfl) (by kernel_rfl) (by kernel_rfl) (fun _ _ _ h => h) (Or.inl ⟨by rfl, ?h3_13⟩) hHeld ?r3_13
                                case h3_13 =>
                                  intro w hSw
                                  obtain ⟨hSw1, hSw2⟩ := hSw
                                  go_simp
                                  try with_reducible rfl
                                  try assumption
                                simp only [List.setIfInBounds_toArray, List.set_cons_zero, List.set_cons_succ]
                                refine takeH 14 146 (v := (.string (text (ss k)))) rfl rfl (by kernel_rfl) (by kernel_rfl) (by kernel_rfl) (fun _ _ _ h => h) (Or.inl ⟨by rfl, ?h3_14⟩) hHeld ?r3_14
                                case h3_14 =>
                                  intro w hSw
                                  obtain ⟨hSw1, hSw2⟩ := hSw
                                  go_simp
                                  try with_reducible rfl
                                  try assumption
                                simp only [List.setIfInBounds_toArray, List.set_cons_zero, List.set_cons_succ]
                                refine takeH 15 147 (v := ?v3_15) rfl rfl (by kernel_rfl) (by kernel_rfl) (by kernel_rfl) (fun _ _ _ h => h) (Or.inl ⟨by rfl, ?h3_15⟩) hHeld ?r3_15
                                case h3_15 =>
                                  intro w hSw
                                  obtain ⟨hSw1, hSw2⟩ := hSw
                                  go_simp
                                  try with_reducible rfl
                                  try assumption
                                simp only [List.setIfInBounds_toArray, List.set_cons_zero, List.set_cons_succ]
                                refine takeH 16 148 (v := ?v3_16) rfl rfl (by kernel_rfl) (by kernel_rfl) (by kernel_rfl) (fun _ _ _ h => h) (Or.inl ⟨by rfl, ?h3_16⟩) hHeld ?r3_16
                                case h3_16 =>
                                  intro w hSw
                                  obtain ⟨hSw1, hSw2⟩ := hSw
                                  go_simp
                                  try with_reducible rfl
                                  try assumption
                                simp only [List.setIfInBounds_toArray, List.set_cons_zero, List.set_cons_succ]
                                refine takeH 17 149 (v := (.string (text (ss k)))) rfl rfl (by kernel_rfl) (by kernel_rfl) (by kernel_rfl) (fun _ _ _ h => h) (Or.inl ⟨by rfl, ?h3_17⟩) hHeld ?r3_17
                                case h3_17 =>
                                  intro w hSw
                                  obtain ⟨hSw1, hSw2⟩ := hSw
                                  go_simp
                                  try with_reducible rfl
                                  try assumption
                                simp only [List.setIfInBounds_toArray, List.set_cons_zero, List.set_cons_succ]
                                refine takeH 18 150 (v := (.bool false)) rfl rfl (by kernel_rfl) (by kernel_rfl) (by kernel_rfl) (fun _ _ _ h => h) (Or.inl ⟨by rfl, ?h3_18⟩) hHeld ?r3_18
                                case h3_18 =>
                                  intro w hSw
                                  obtain ⟨hSw1, hSw2⟩ := hSw
                                  go_simp
                                  try with_reducible rfl
                                  try assumption
                                simp only [List.setIfInBounds_toArray, List.set_cons_zero, List.set_cons_succ]
                                refine takeH 19 151 (v := (.bool false)) rfl rfl (by kernel_rfl) (by kernel_rfl) (by kernel_rfl) (fun _ _ _ h => h) (Or.inl ⟨by rfl, ?h3_19⟩) hHeld ?r3_19
                                case h3_19 =>
                                  intro w hSw
                                  obtain ⟨hSw1, hSw2⟩ := hSw
                                  go_simp
                                  try with_reducible rfl
                                  try assumption
                                simp only [List.setIfInBounds_toArray, List.set_cons_zero, List.set_cons_succ]
                                refine takeH 20 152 (v := ?v3_20) rfl rfl (by kernel_rfl) (by kernel_rfl) (by kernel_rfl) (fun _ _ _ h => h) (Or.inl ⟨by rfl, ?h3_20⟩) hHeld ?r3_20
                                case h3_20 =>
                                  intro w hSw
                                  obtain ⟨hSw1, hSw2⟩ := hSw
                                  go_simp
                                  try with_reducible rfl
                                  try assumption
                                simp only [List.setIfInBounds_toArray, List.set_cons_zero, List.set_cons_succ]
                                refine takeH 21 153 (v := (.bool false)) rfl rfl (by kernel_rfl) (by kernel_rfl) (by kernel_rfl) (fun _ _ _ h => h) (Or.inl ⟨by rfl, ?h3_21⟩) hHeld ?r3_21
                                case h3_21 =>
                                  intro w hSw
                                  obtain ⟨hSw1, hSw2⟩ := hSw
                                  go_simp
                                  try with_reducible rfl
                                  try assumption
                                simp only [List.setIfInBounds_toArray, List.set_cons_zero, List.set_cons_succ]
                                refine takeH 22 154 (v := ?v3_22) rfl rfl (by kernel_rfl) (by kernel_rfl) (by kernel_rfl) (fun _ _ _ h => h) (Or.inl ⟨by rfl, ?h3_22⟩) hHeld ?r3_22
                                case h3_22 =>
                                  intro w hSw
                                  obtain ⟨hSw1, hSw2⟩ := hSw
                                  go_simp
                                  try with_reducible rfl
                                  try assumption
                                simp only [List.setIfInBounds_toArray, List.set_cons_zero, List.set_cons_succ]
                                refine takeH 23 155 (v := ?v3_23) rfl rfl (by kernel_rfl) (by kernel_rfl) (by kernel_rfl) (fun _ _ _ h => h) (Or.inl ⟨by rfl, ?h3_23⟩) hHeld ?r3_23
                                case h3_23 =>
                                  intro w hSw
                                  obtain ⟨hSw1, hSw2⟩ := hSw
                                  go_simp
                                  try with_reducible rfl
                                  try assumption
                                simp only [List.setIfInBounds_toArray, List.set_cons_zero, List.set_cons_succ]
                                refine takeH 24 156 (v := (.string (text (ss k)))) rfl rfl (by kernel_rfl) (by kernel_rfl) (by kernel_rfl) (fun _ _ _ h => h) (Or.inl ⟨by rfl, ?h3_24⟩) hHeld ?r3_24
                                case h3_24 =>
                                  intro w hSw
                                  obtain ⟨hSw1, hSw2⟩ := hSw
                                  go_simp
                                  try with_reducible rfl
                                  try assumption
                                simp only [List.setIfInBounds_toArray, List.set_cons_zero, List.set_cons_succ]
                                refine takeH 25 157 (v := (.bool false)) rfl rfl (by kernel_rfl) (by kernel_rfl) (by kernel_rfl) (fun _ _ _ h => h) (Or.inl ⟨by rfl, ?h3_25⟩) hHeld ?r3_25
                                case h3_25 =>
                                  intro w hSw
                                  obtain ⟨hSw1, hSw2⟩ := hSw
                                  go_simp
                                  try with_reducible rfl
                                  try assumption
                                simp only [List.setIfInBounds_toArray, List.set_cons_zero, List.set_cons_succ]
                                refine takeH 26 158 (v := (.bool false)) rfl rfl (by kernel_rfl) (by kernel_rfl) (by kernel_rfl) (fun _ _ _ h => h) (Or.inl ⟨by rfl, ?h3_26⟩) hHeld ?r3_26
                                case h3_26 =>
                                  intro w hSw
                                  obtain ⟨hSw1, hSw2⟩ := hSw
                                  go_simp
                                  try with_reducible rfl
                                  try assumption
                                simp only [List.setIfInBounds_toArray, List.set_cons_zero, List.set_cons_succ]
                                refine takeH 27 159 (v := (.bool false)) rfl rfl (by kernel_rfl) (by kernel_rfl) (by kernel_rfl) (fun _ _ _ h => h) (Or.inl ⟨by rfl, ?h3_27⟩) hHeld ?r3_27
                                case h3_27 =>
                                  intro w hSw
                                  obtain ⟨hSw1, hSw2⟩ := hSw
                                  go_simp
                                  try with_reducible rfl
                                  try assumption
                                simp only [List.setIfInBounds_toArray, List.set_cons_zero, List.set_cons_succ]
                                refine takeH 28 160 (v := (.bool false)) rfl rfl (by kernel_rfl) (by kernel_rfl) (by kernel_rfl) (fun _ _ _ h => h) (Or.inl ⟨by rfl, ?h3_28⟩) hHeld ?r3_28
                                case h3_28 =>
                                  intro w hSw
                                  obtain ⟨hSw1, hSw2⟩ := hSw
                                  go_simp
                                  try with_reducible rfl
                                  try assumption
                                simp only [List.setIfInBounds_toArray, List.set_cons_zero, List.set_cons_succ]
                                refine takeH 29 161 (v := (.bool false)) rfl rfl (by kernel_rfl) (by kernel_rfl) (by kernel_rfl) (fun _ _ _ h => h) (Or.inl ⟨by rfl, ?h3_29⟩) hHeld ?r3_29
                                case h3_29 =>
                                  intro w hSw
                                  obtain ⟨hSw1, hSw2⟩ := hSw
                                  go_simp
                                  try with_reducible rfl
                                  try assumption
                                simp only [List.setIfInBounds_toArray, List.set_cons_zero, List.set_cons_succ]
                                refine wpAnyH_done (by kernel_rfl) ?_ _
                                go_wp2_with fail
                                go_roundw
                                case rel => exact ⟨k + 1, by go_num, by omega, HS2⟩
                                case measure => simp [intOf]; omega
                          · have hke : k = 24 := by omega
                            subst hke
                            go_wp2_with fail
                            go_ret
                            exact ⟨rfl, HBr.out⟩
end
end Go.Proofs.YtiafamacjpgjoaaGreatDoor
