/- The token laws' same: does a sequencer tell what its model holds. -/
import Derived.Test.YtfgpjelnijeoaaaDoorTkN
import Derived.Test.YtfgpjelnijeoaaaDoorTkQ
import Derived.Test.YtfgpjelnijeoaaaDoorTkG
import Derived.Laws.BitsLemmas
import Derived.Deep.RegionHeld3
namespace Go.Proofs.YtfgpjelnijeoaaaDoor
open Go Go.RowKit Tide

theorem flip_one (e : Nat) (h : e ≤ 1073741824) : ∃ f : Nat, bits .xor .i64 (e : Int) 1 = (f : Int) ∧ (f : Int) ≠ (e : Int) := by
  have hx : e ^^^ 1 < 2 ^ 31 := Nat.xor_lt_two_pow (by omega) (by omega)
  have h1 : (BitVec.ofInt 64 (e : Int)).toNat = e := by
    rw [BitVec.ofInt_natCast, BitVec.toNat_ofNat]; exact Nat.mod_eq_of_lt (by omega)
  have h2 : (BitVec.ofInt 64 (1 : Int)).toNat = 1 := by decide
  refine ⟨e ^^^ 1, ?_, fun h => ?_⟩
  · show IntKind.i64.wrap ((BitVec.ofInt 64 (e : Int) ^^^ BitVec.ofInt 64 (1 : Int)).toNat : Int) = _
    rw [BitVec.toNat_xor, h1, h2, IntKind.wrap_i64]
    omega
  · have h : e ^^^ 1 = e := by omega
    have h3 : e ^^^ (e ^^^ 1) = e ^^^ e := by rw [h]
    rw [← Nat.xor_assoc, Nat.xor_self, Nat.zero_xor] at h3
    cases h3
section
variable {a : Nat → Addr} {w w' : World} {g q : Nat} {R : Nat → Prop} {s : SeqD}
set_option maxRecDepth 100000 in
set_option maxHeartbeats 2000000 in
theorem same13_any (hE : Errs w a) (hT : TokIs w g s) (hS : SeqIs w R q s) (h0 : 0 ≤ s.ep) (h1 : s.ep ≤ 1073741824) :
    Calls Tryd.prog 15 #[.pointer (some ⟨g, 0, none⟩), .pointer (some ⟨q, 0, none⟩)] w fun e w' => e = .returned (.bool true) ∧ Below w.heap.size w w' := by
  obtain ⟨ep, nx, all⟩ := s
  simp only [] at h0 h1
  obtain ⟨e, rfl⟩ : ∃ e : Nat, ep = (e : Int) := ⟨ep.toNat, by omega⟩
  have CX := Lib.hid (fun W (hb : Below w.heap.size w W) (ep : Int) => next_tok (hT.below hb) (E5.of_errs (hE.below hb)) ep)
  have HC := Lib.hid (fun W (hb : Below w.heap.size w W) => (show W.cell? ⟨q, 0, none⟩ = some (.int .i64 (e : Int)) ∧ W.cell? ⟨q, 1, none⟩ = some (.int .i64 (nx : Int)) from by
    obtain ⟨vs, hs⟩ := hS.below hb
    exact ⟨hs.epoch, hs.next⟩))
  have CE := Lib.hid (fun W (hb : Below w.heap.size w W) => epoch_tok (hT.below hb))
  have CU := Lib.hid (fun W (hb : Below w.heap.size w W) (m : Nat) (hm : m < 19) => num_any a (errAt (a m)) (m + 1) W (hE.below hb) (isErr_at a m hm))
  have CB1 := Lib.hid (fun W (hb : Below w.heap.size w W) => backs_tok (hT.below hb))
  have CB2 := Lib.hid (fun W (hb : Below w.heap.size w W) => backs13_any _ R q W (hS.below hb))
  simp only [] at CB1 CB2
  have CSB := Lib.hid (fun (W : World) (u v : Value) (x : List (Int × List Int)) (lo1 lo2 : Nat) (hu : OwnB W lo1 u x) (hv : OwnB W lo2 v x) => (show Calls Tryd.prog 14 #[u, v] W fun e w' => e = .returned (.bool true) ∧ Below W.heap.size W w' from by
    have := sameBacks_any u v x x W.heap.size W.heap.size W hu.backs hv.backs (Nat.le_refl _) (Nat.le_refl _)
    simpa using this))
  have CK := Lib.hid (fun W (hb : Below w.heap.size w W) (ep x : Int) => newest_tok (hT.below hb) (E5.of_errs (hE.below hb)) ep x)
  have CR := Lib.hid (fun W (hb : Below w.heap.size w W) (k : Nat) (hk : k < 13) => newest13_any _ k R q W hk (hS.below hb))
  simp only [] at CK CR
  have CSI := Lib.hid (fun (W : World) (u v : Value) (x : List Int) (B B' : Nat) (hu : Own W B u x) (hv : Own W B' v x) => (show Calls Tryd.prog 16 #[u, v] W fun e w' => e = .returned (.bool true) ∧ Below W.heap.size W w' from by
    have := sameIq_any u v x x W.heap.size W.heap.size W hu.row hv.row
    refine this.mono ?_
    rintro e w' ⟨rfl, n, rfl⟩
    exact ⟨by simp, below_drewN (Below.refl _ _) n⟩))
  have hq : q < w.heap.size := by
    obtain ⟨vs, hs⟩ := hS
    exact hs.low q hs.inR
  have c0 := (HC.out w (Below.refl _ _)).1
  have C1 := CX.out w (Below.refl _ _) (e : Int)
  simp only [if_true] at C1
  have C1 := Lib.hid C1
  have hnil := tnil_iface
  have herr := terr_iface
  go_enter Tryd.func15, Tryd.ntmps15
  go_wp2_with fail
  refine C1.out.mono ?_
  rintro en w1 ⟨rfl, hb1⟩
  have B1 := Lib.hid hb1
  have c0 := (HC.out w1 hb1).1
  clear hb1 C1
  go_wp2_with fail
  obtain ⟨f, hf, hne⟩ := flip_one e (by omega)
  have C2 := CX.out w1 B1.out (f : Int)
  rw [if_neg hne, if_neg hne] at C2
  have C2 := Lib.hid C2
  have hf2 := hf
  rw [hf]
  refine C2.out.mono ?_
  rintro en w2 ⟨rfl, hb2⟩
  have B2 := Lib.hid (B1.out.trans (hb2.mono B1.out.size))
  have HC2 := Lib.hid (HC.out w2 B2.out)
  clear hb2 C2 c0
  go_wp2_with fail
  have U2 := Lib.hid (B2.out.drew)
  have D2 := Lib.hid (HC.out _ U2.out)
  have hd2 := D2.out
  go_region_held3 (fun W => W.cell? ⟨q, 0, none⟩ = some (.int .i64 (e : Int)) ∧ W.cell? ⟨q, 1, none⟩ = some (.int .i64 (nx : Int)))
    (first | exact D2.out | exact D4.out | exact D5.out | exact D6.out | exact D7.out | assumption)
    (first
      | (go_at_call 28; (with_reducible refine (CE.out _ U2.out).mono ?_); rintro en w3 ⟨rfl, rfl⟩)
      | (go_at_call 10; (with_reducible refine (CU.out _ U2.out 7 (by omega)).mono ?_); rintro en w4 ⟨rfl, hb⟩; have U4 := Lib.hid (U2.out.trans (hb.mono U2.out.size)); have D4 := Lib.hid (HC.out _ U4.out); clear hb)
      | (go_at_call 29; (with_reducible refine (CB1.out _ U4.out).mono ?_); rintro en w5 ⟨v5, rfl, ho, hb⟩; have U5 := Lib.hid (U4.out.trans (hb.mono U4.out.size)); have D5 := Lib.hid (HC.out _ U5.out); have O5 := Lib.hid ho; clear hb ho)
      | (go_at_call 30; (with_reducible refine (CB2.out _ U5.out).mono ?_); rintro en w6 ⟨v6, rfl, ho, hb⟩; have U6 := Lib.hid (U5.out.trans (hb.mono U5.out.size)); have D6 := Lib.hid (HC.out _ U6.out); have P6 := Lib.hid (O5.out.below hb); have O6 := Lib.hid ho; clear hb ho)
      | (go_at_call 14; (with_reducible refine (CSB.out _ _ _ _ _ _ P6.out O6.out).mono ?_); rintro en w7 ⟨rfl, hb⟩; have U7 := Lib.hid (U6.out.trans (hb.mono U6.out.size)); have D7 := Lib.hid (HC.out _ U7.out); clear hb))
  go_wp2_with fail
  clear hd2
  go_loopw [69] (fun z wr => ∃ k : Nat, z = .int .i64 k ∧ k ≤ 13 ∧ Hid (Below w.heap.size w wr)) (fun z _ => 13 - (intOf z).toNat)
  case atStart => exact ⟨0, rfl, Nat.zero_le _, U7⟩
  case round =>
    clear U2 D2 D7 U7 P6 O6 D6 U6 O5 D5 U5 D4 U4 B1 B2 HC2
    obtain ⟨k, rfl, hk, hB⟩ := hrel
    obtain ⟨d0, d1⟩ := HC.out wr hB.out
    by_cases hlt : k < 13
    · have i1 : (k : Int) < 13 := by omega
      have CK1 := CK.out wr hB.out (e : Int) (k : Int)
      rw [if_pos rfl, if_pos (by omega), if_pos (by omega), Int.toNat_natCast] at CK1
      have CK1 := Lib.hid CK1
      go_wp2_with fail
      refine CK1.out.mono ?_
      rintro en w3 ⟨u, rfl, ho, hb⟩
      have B3 := Lib.hid (hB.out.trans (hb.mono hB.out.size))
      have O3 := Lib.hid ho
      have CR3 := Lib.hid (CR.out w3 B3.out k hlt)
      clear ho hb CK1 d0 d1
      go_wp2_with fail
      refine CR3.out.mono ?_
      rintro en w4 ⟨v, rfl, ho, hb⟩
      have B4 := Lib.hid (B3.out.trans (hb.mono B3.out.size))
      have CS4 := Lib.hid (CSI.out w4 _ _ _ _ _ (O3.out.below hb) ho)
      clear ho hb CR3
      go_wp2_with fail
      refine CS4.out.mono ?_
      rintro en w5 ⟨rfl, hb⟩
      have B5 := Lib.hid (B4.out.trans (hb.mono B4.out.size))
      clear hb CS4
      go_wp2_with fail
      go_roundw
      case rel => exact ⟨k + 1, by go_num, by omega, B5⟩
      case measure => simp [intOf]; omega
    · have CK1 := CK.out wr hB.out (e : Int) 13
      rw [if_pos rfl, if_neg (by omega), if_neg (by omega)] at CK1
      have CK1 := Lib.hid CK1
      go_wp2_with fail
      refine CK1.out.mono ?_
      rintro en w3 ⟨u1, rfl, _, hb⟩
      have B3 := Lib.hid (hB.out.trans (hb.mono hB.out.size))
      have CK3 := CK.out w3 B3.out (e : Int) (-1)
      rw [if_pos rfl, if_neg (by omega), if_neg (by omega)] at CK3
      have CK3 := Lib.hid CK3
      obtain ⟨d0, d1⟩ := HC.out w3 B3.out
      clear hb CK1
      go_wp2_with fail
      refine CK3.out.mono ?_
      rintro en w4 ⟨u2, rfl, _, hb⟩
      have B4 := Lib.hid (B3.out.trans (hb.mono B3.out.size))
      have CK4 := CK.out w4 B4.out (f : Int) 0
      rw [if_neg hne, if_neg (fun h => hne h.1)] at CK4
      have CK4 := Lib.hid CK4
      obtain ⟨d0, d1⟩ := HC.out w4 B4.out
      clear hb CK3
      go_wp2_with fail
      refine CK4.out.mono ?_
      rintro en w5 ⟨u3, rfl, _, hb⟩
      have B5 := Lib.hid (B4.out.trans (hb.mono B4.out.size))
      have CU5 := Lib.hid (CU.out w5 B5.out 0 (by omega))
      clear hb CK4
      go_wp2_with fail
      refine CU5.out.mono ?_
      rintro en w6 ⟨rfl, hb⟩
      have B6 := Lib.hid (B5.out.trans (hb.mono B5.out.size))
      have CU6 := Lib.hid (CU.out w6 B6.out 0 (by omega))
      clear hb CU5
      go_wp2_with fail
      refine CU6.out.mono ?_
      rintro en w7 ⟨rfl, hb⟩
      have B7 := Lib.hid (B6.out.trans (hb.mono B6.out.size))
      have CU7 := Lib.hid (CU.out w7 B7.out 7 (by omega))
      clear hb CU6
      go_wp2_with fail
      refine CU7.out.mono ?_
      rintro en w8 ⟨rfl, hb⟩
      have B8 := Lib.hid (B7.out.trans (hb.mono B7.out.size))
      clear hb CU7
      go_wp2_with fail
      go_ret
      exact ⟨rfl, B8.out⟩
end
end Go.Proofs.YtfgpjelnijeoaaaDoor
