/- The law of votes: alive; a side that begins. -/
import Derived.Test.YtidgpnanbbkakaaDoorVtV
import Derived.Test.YtidgpnanbbkakaaDoorVtO
import Derived.Test.YtidgpnanbbkakaaDoorConv
namespace Go.Proofs.YtidgpnanbbkakaaDoor
open Go Go.RowKit Tide

theorem toldField (y : Bool) (a : Int) (t : ByteArray) (w : World) : (Instr.field 35 (.agg #[.bool y, .int .i64 a, .string t]) 0).run Tryd.prog w = .ok (.bool y) w := by kernel_rfl
theorem fits1 : fitsI 1 := ⟨by decide, by decide⟩
/-- Behind a call of a voter of the call's own. -/
theorem VotB.own {w W W' : World} {q m : Nat} {o : Option Nat} {h' : Int → HeldV} (hb : Below w.heap.size w W) (hq : ∀ j, j = q ∨ o = some j → w.heap.size ≤ j) (B : VotB W q o m h' W') : ∃ o', VotW W' q o' m h' ∧ Below w.heap.size w W' ∧ ∀ j, j = q ∨ o' = some j → w.heap.size ≤ j := by
  obtain ⟨o', h1, h2, h3⟩ := B
  refine ⟨o', h1, Tide.Below.kept hb h2 hb.size hq, fun j hj => ?_⟩
  rcases hj with hj | hj
  · exact hq j (.inl hj)
  · rcases h3 j hj with e | e
    · exact hq j (.inr e)
    · exact Nat.le_trans hb.size e
set_option maxRecDepth 100000 in
theorem valive_any (W : World) : Calls Tryd.prog 5 #[] W fun e w' => e = .returned (.bool true) ∧ Below W.heap.size W w' := by
  have V0 := Lib.hid (VotW.new W W.heap.size rfl)
  have HB := Lib.hid ((Below.refl W.heap.size W).alloc (Nat.le_refl _) (.cells #[.map none] 51))
  have C1 := Lib.hid (vprepare_any V0.out (by omega) 1 5 fits1)
  have HG := Lib.hid (show ∀ j, j = W.heap.size ∨ (none : Option Nat) = some j → W.heap.size ≤ j from fun j hj => hj.elim (fun e => Nat.le_of_eq e.symm) (fun e => by cases e))
  go_enter Tryd.func5, Tryd.ntmps5
  go_wp2_with fail
  refine C1.out.mono ?_
  rintro e w1 ⟨rfl, hv⟩
  obtain ⟨o1, v1, b1, g1⟩ := VotB.own HB.out HG.out hv
  have V1 := Lib.hid v1
  have B1 := Lib.hid b1
  have G1 := Lib.hid g1
  have e1 : (Value.agg #[.bool (prepYes noneV 5), .int .i64 noneV.accepted, .string noneV.text]) = .agg #[.bool true, .int .i64 (-1), .string ⟨#[]⟩] := rfl
  have f1 := toldField true (-1) ⟨#[]⟩ w1
  have C2 := Lib.hid (vprepare_any V1.out (by omega) 1 4 fits1)
  rw [e1]
  clear hv v1 b1 g1 C1 V0 HB HG e1
  go_wp2_with fail
  refine C2.out.mono ?_
  rintro e w2 ⟨rfl, hv⟩
  obtain ⟨o2, v2, b2, g2⟩ := VotB.own B1.out G1.out hv
  have V2 := Lib.hid v2
  have B2 := Lib.hid b2
  have G2 := Lib.hid g2
  have e2 : (Value.agg #[.bool (prepYes (updI (fun _ => noneV) 1 (prepV noneV 5) 1) 4), .int .i64 (updI (fun _ => noneV) 1 (prepV noneV 5) 1).accepted, .string (updI (fun _ => noneV) 1 (prepV noneV 5) 1).text]) = .agg #[.bool false, .int .i64 (-1), .string ⟨#[]⟩] := rfl
  have f2 := toldField false (-1) ⟨#[]⟩ w2
  have C3 := Lib.hid (vaccept_any V2.out (by omega) 1 5 fits1 ⟨#[97]⟩)
  rw [e2]
  clear hv v2 b2 g2 C2 V1 B1 G1 e2
  go_wp2_with fail
  refine C3.out.mono ?_
  rintro e w3 ⟨rfl, hv⟩
  obtain ⟨o3, v3, b3, g3⟩ := VotB.own B2.out G2.out hv
  have V3 := Lib.hid v3
  have B3 := Lib.hid b3
  have e3 : accYes (updI (updI (fun _ => noneV) 1 (prepV noneV 5)) 1 (prepV (updI (fun _ => noneV) 1 (prepV noneV 5) 1) 4) 1) 5 = true := rfl
  have C4 := Lib.hid (vpromised_any V3.out 1 fits1)
  rw [e3]
  clear hv v3 b3 g3 C3 V2 B2 G2 e3
  go_wp2_with fail
  refine C4.out.mono ?_
  rintro e w4 ⟨rfl, hb⟩
  have B4 := Lib.hid (B3.out.trans (hb.mono B3.out.size))
  have e4 : (updI (updI (updI (fun _ => noneV) 1 (prepV noneV 5)) 1 (prepV (updI (fun _ => noneV) 1 (prepV noneV 5) 1) 4)) 1 (accV (updI (updI (fun _ => noneV) 1 (prepV noneV 5)) 1 (prepV (updI (fun _ => noneV) 1 (prepV noneV 5) 1) 4) 1) 5 ⟨#[97]⟩) 1).promised = 5 := rfl
  rw [e4]
  clear hb C4 V3 B3 e4
  go_wp2_with fail
  go_ret
  exact ⟨rfl, B4.out⟩
/-- A side's cells are changed: who proposes, its ballot. -/
def sideCells (cs : Array Value) (o : Nat) (q : Nat) (b : Int) : Array Value := (cs.setIfInBounds (o + 1) (.int .i64 b)).setIfInBounds o (.pointer (some ⟨q, 0, none⟩))
set_option maxRecDepth 100000 in
theorem vbegin_any {W : World} {sb o n who : Nat} {cs : Array Value} {t : TypeId} {b : Int} {x : Value} (hc : W.heap[sb]? = some (.cells cs t (0, 0))) (h0 : cs[o]? = some x) (h1 : cs[o + 1]? = some (.int .i64 b)) (hn1 : 1 ≤ n) (hn5 : n ≤ 5) (hw : who < 4) (hb0 : 0 ≤ b + 4) (hb1 : b ≤ 1000000) :
    Calls Tryd.prog 15 #[.pointer (some ⟨sb, o, none⟩), .int .i64 (n : Int), .int .i64 (who : Int)] W fun e w' => e = .returned (.bool true) ∧ ∃ q bp ba, w'.heap[sb]? = some (.cells (sideCells cs o q (b + 4)) t (0, 0)) ∧ ProW w' q bp ba 0 (newV n (txtV who)) ∧ Kept (fun j => j = sb) W w' ∧ ∀ k, FPro q bp ba k → W.heap.size ≤ k := by
  have hd : W.cell? ⟨sb, o, none⟩ = some x := by rw [cell_of_row _ _ o _ _ _ hc]; exact h0
  have hd1 : W.cell? ⟨sb, o + 1, none⟩ = some (.int .i64 b) := by rw [cell_of_row _ _ (o + 1) _ _ _ hc]; exact h1
  have hfz : ∀ i, W.frozen? ⟨sb, i, none⟩ = false := fun i => frozen_of_row _ _ i _ _ hc
  have hlt : sb < W.heap.size := World.block_lt_of_cell? _ _ hd
  have hs1 : wrap64 (b + 4) = b + 4 := by unfold wrap64; omega
  have hs2 : IntKind.i64.wrap (b + 4) = b + 4 := by simp [IntKind.wrap, IntKind.signed, IntKind.bits]; omega
  have hs3 : wrap64 (97 + (who : Int)) = 97 + (who : Int) := by unfold wrap64; omega
  have hs4 : IntKind.i64.wrap (97 + (who : Int)) = 97 + (who : Int) := by simp [IntKind.wrap, IntKind.signed, IntKind.bits]; omega
  have hs5 : IntKind.u8.wrap (97 + (who : Int)) = 97 + (who : Int) := by simp [IntKind.wrap, IntKind.signed, IntKind.bits]; omega
  obtain ⟨W2, hW2⟩ : ∃ W2, W.setCell ⟨sb, o + 1, none⟩ (.int .i64 (b + 4)) = W2 := ⟨_, rfl⟩
  have hz2 : W2.heap.size = W.heap.size := by rw [← hW2]; simp [World.setCell]
  have hc2 : W2.heap[sb]? = some (.cells (cs.setIfInBounds (o + 1) (.int .i64 (b + 4))) t (0, 0)) := by rw [← hW2]; exact heap_setCell_same _ _ _ _ _ _ hc
  have ho1 : o + 1 < cs.size := (Array.getElem?_eq_some_iff.1 h1).1
  have hd2 : W2.cell? ⟨sb, o, none⟩ = some x := by rw [cell_of_row _ _ o _ _ _ hc2, Array.getElem?_setIfInBounds]; simp; exact h0
  have hd3 : W2.cell? ⟨sb, o + 1, none⟩ = some (.int .i64 (b + 4)) := by rw [cell_of_row _ _ (o + 1) _ _ _ hc2, Array.getElem?_setIfInBounds]; simp [ho1]
  have hf2 : ∀ i, W2.frozen? ⟨sb, i, none⟩ = false := fun i => frozen_of_row _ _ i _ _ hc2
  have hl2 : sb < W2.heap.size := by omega
  have hB3 := (Below.refl W2.heap.size W2).alloc (Nat.le_refl _) (.cells #[.int .u8 (97 + (who : Int))] 5)
  have hconv : (convert 73 9 (.slice (some ⟨W.heap.size, 0, none⟩) 1 1)).run Tryd.prog (W2.alloc (.cells #[.int .u8 (97 + (who : Int))] 5)).drew = .ok (.string (txtV who)) (W2.alloc (.cells #[.int .u8 (97 + (who : Int))] 5)).drew := by
    have h := conv_bytes (w := (W2.alloc (.cells #[.int .u8 (97 + (who : Int))] 5)).drew) (B := W2.heap.size + 1) (v := .slice (some ⟨W.heap.size, 0, none⟩) 1 1) (l := [UInt8.ofNat (97 + who)])
      (Bytes.drew (Bytes.new W2 5 #[.int .u8 (97 + (who : Int))] (0, 0) W.heap.size 1 [UInt8.ofNat (97 + who)] hz2.symm (by simp [u8s]; omega) rfl (by decide)))
    exact h
  have CN := Lib.hid (vnew_any (W2.alloc (.cells #[.int .u8 (97 + (who : Int))] 5)).drew n hn1 hn5 1 (b + 4) hb0 (txtV who))
  go_enter Tryd.func15, Tryd.ntmps15
  clear hn1 hn5 hb0 hb1 hw
  go_wp2_with fail
  go_region_with (refine CN.out.mono ?_; rintro e w3 ⟨q, bp, ba, rfl, hp, hb3, hf3⟩)
  all_goals
    simp only [Act.put, List.setIfInBounds_toArray]
    have HP := Lib.hid (And.intro hp (And.intro hb3 hf3))
    clear hp hf3
    have hb4 : Below W2.heap.size W2 w3 := hB3.trans ((show Below _ (W2.alloc (.cells #[.int .u8 (97 + (who : Int))] 5)) w3 from ⟨hb3.os, hb3.tape, hb3.output, hb3.size, hb3.block⟩).mono hB3.size)
    have hc3 := (Kept.of_below (F := fun _ => False) hb4).heap hc2 (fun h => h)
    have he : w3.cell? ⟨sb, o, none⟩ = some x := (below_cells hb4 _ _ hl2).trans hd2
    have hf4 : ∀ i, w3.frozen? ⟨sb, i, none⟩ = false := fun i => frozen_of_row _ _ i _ _ hc3
    have hl3 : sb < w3.heap.size := Nat.lt_of_lt_of_le hl2 hb4.size
    have HE := Lib.hid (show ∃ q' bp ba, q' = q ∧ (w3.setCell ⟨sb, o, none⟩ (.pointer (some ⟨q, 0, none⟩))).heap[sb]? = some (.cells (sideCells cs o q' (b + 4)) t (0, 0)) ∧ ProW (w3.setCell ⟨sb, o, none⟩ (.pointer (some ⟨q, 0, none⟩))) q' bp ba 0 (newV n (txtV who)) ∧ Kept (fun j => j = sb) W (w3.setCell ⟨sb, o, none⟩ (.pointer (some ⟨q, 0, none⟩))) ∧ ∀ k, FPro q' bp ba k → W.heap.size ≤ k from by
      have hk : Kept (fun j => j = sb) w3 (w3.setCell ⟨sb, o, none⟩ (.pointer (some ⟨q, 0, none⟩))) := Kept.setCell (F := fun j => j = sb) (Kept.refl _ w3) (p := ⟨sb, o, none⟩) (.inl rfl) _
      have hge : ∀ k, FPro q bp ba k → W2.heap.size ≤ k := fun k h => Nat.le_trans hB3.size (HP.out.2.2 k h)
      refine ⟨q, bp, ba, rfl, heap_setCell_same _ _ _ _ _ _ hc3, HP.out.1.kept hk (fun k h e => ?_), ?_, fun k h => by have := hge k h; omega⟩
      · have := hge k h; omega
      · refine Kept.trans (Kept.trans (F := fun j => j = sb) (show Kept (fun j => j = sb) W W2 from ?_) (Kept.of_below (F := fun _ => False) hb4) (fun _ h => h.elim)) hk (fun i hi => .inl hi)
        rw [← hW2]
        exact Kept.setCell (F := fun j => j = sb) (Kept.refl _ W) (p := ⟨sb, o + 1, none⟩) (.inl rfl) _)
    clear hc3 hb3 hb4 HP hc hd hd1 hfz hlt hW2 hz2 hc2 hd2 hd3 hf2 hl2 hB3 hconv CN
    go_wp2_with fail
    go_ret
    obtain ⟨q', bp', ba', rfl, g1, g2, g3, g4⟩ := HE.out
    exact ⟨rfl, q', bp', ba', g1, g2, g3, g4⟩
end Go.Proofs.YtidgpnanbbkakaaDoor
