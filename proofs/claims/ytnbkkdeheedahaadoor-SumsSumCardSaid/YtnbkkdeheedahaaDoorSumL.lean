/- The law of Sum, walked: it answers true for all parts, wherever the table of package sums lies, and leaves what there was as it was. -/
import Derived.Test.YtnbkkdeheedahaaDoorAliveW
import Derived.Test.YtnbkkdeheedahaaDoorApp
namespace Go.Proofs.YtnbkkdeheedahaaDoor
open Go.RowKit Tide


theorem flat_snoc (ps : List (List UInt8)) (k : Nat) (h : k < ps.length) : (ps.take (k + 1)).flatten = (ps.take k).flatten ++ ps[k] := by
  rw [List.take_succ_eq_append_getElem h, List.flatten_append]; simp

set_option maxHeartbeats 400000 in
theorem sum_law (v : Value) (ps : List (List UInt8)) (w : World) (hp : Parts w w.heap.size v ps) (ht : TabIn w) :
    Calls Tryd.prog 3 #[v] w fun e w' => e = .returned (.bool true) ∧ Below w.heap.size w w' := by
  obtain ⟨i0, hi, hz0, hz1, hz2⟩ := info_parts infoB
  have HI := Lib.hid hi
  clear hi
  have HT := Lib.hid ht
  have HP := Lib.hid hp
  obtain ⟨hn, A, c, rfl, _⟩ := hp.form
  clear ht hp
  by_cases hlen : 20 < ps.length
  · go_enter Tryd.func3, Tryd.ntmps3
    go_wp2_with fail
    refine (alive_any _ HT.out).mono ?_
    rintro e w1 ⟨rfl, hb1⟩
    go_wp2_with fail
    go_ret
    exact ⟨rfl, hb1⟩
  · go_enter Tryd.func3, Tryd.ntmps3
    go_wp2_with fail
    refine (alive_any _ HT.out).mono ?_
    rintro e w1 ⟨rfl, hb1⟩
    have HT1 := Lib.hid (HT.out.below hb1)
    have HP1 := Lib.hid (HP.out.below hb1)
    have hs1 := hb1.size
    go_wp2_with fail
    go_loopw [3, 14] (fun u i wr => ∃ (k : Nat) (L : List UInt8), k ≤ ps.length ∧ i = .int .i64 k ∧ wr.ownsRow w1.heap.size 5 1 u L.length (u8s L) ∧ Below w1.heap.size w1 wr ∧ L.length ≤ 300 * k ∧ Hid (L = (ps.take k).flatten)) (fun _ i _ => ps.length - (intOf i).toNat)
    case atStart =>
      refine ⟨0, [], Nat.zero_le _, rfl, ?_, (Below.refl _ _).alloc (Nat.le_refl _) _, by simp, Lib.hid (by simp)⟩
      exact own_new _ _ _ _ _ _ _ _ rfl (Nat.le_refl _) (by simp) (by simp [maxLen]) rfl (by simp [u8s])
    case round =>
      rename_i u i wr
      obtain ⟨k, L, hk, rfl, hown1, hb2, hfl, hL⟩ := hrel
      have hs2 := hb2.size
      have HO := Lib.hid hown1
      clear hown1
      have HPr := Lib.hid ((HP1.out).keep (fun b o h => hb2.cell (p := ⟨b, o, none⟩) (by show b < w1.heap.size; omega)))
      by_cases hlt : k < ps.length
      · obtain ⟨_, A', c', he, hcs⟩ := HPr.out.form
        obtain ⟨b, o, x, rfl, hcell, hx⟩ := hcs k hlt
        injection he with he1 he2 he3
        subst he1 he3
        clear hcs
        obtain ⟨A2, c2, rfl, _, _, _⟩ := hx.form
        have hxl := hx.len
        have HX := Lib.hid hx
        clear hx
        by_cases h300 : 300 < ps[k].length
        · go_wp2_with fail
          go_ret
          exact ⟨rfl, hb1.trans (hb2.mono hs1)⟩
        · have hsn := Lib.hid (show L ++ ps[k] = (ps.take (k + 1)).flatten by rw [flat_snoc ps k hlt, hL.out])
          go_wp2_with (at_builtin; refine wpList_append_row _ rfl (.tmp 21) (.tmp 22) _ rfl w1.heap.size 5 i0 (.int .u8 0) 1 Tryd.underlying24 HI.out hz0 hz1 hz2 rfl _ _ _ rfl HO.out w.heap.size _ (u8s ps[k]) rfl HX.out (u8s_one _) ?d1 ?d2 ?d3 ?_)
          case d1 => rw [u8s_length]; unfold maxLen; omega
          case d2 => rw [u8s_length]; omega
          intro v4 w4 hown4 hg4 _
          have hb5 := hb2.grown hg4 hs2 (fun g hg => (HO.out.lt g hg).1)
          rw [u8s_length, ← u8s_append, ← List.length_append] at hown4
          have hl5 : (L ++ ps[k]).length ≤ 300 * (k + 1) := by rw [List.length_append]; omega
          have HL5 := Lib.hid hl5
          clear hl5
          have HO4 := Lib.hid hown4
          clear hown4 hb2 hg4
          go_wp2_with fail
          go_roundw
          case rel => exact ⟨k + 1, _, by omega, by go_num, HO4.out, hb5, HL5.out, hsn⟩
          case measure => simp [intOf]; omega
      · have hkl := Lib.hid (show ps.take k = ps from List.take_of_length_le (by omega))
        have hLp := Lib.hid (hL.out.trans (congrArg List.flatten hkl.out))
        have hR := Bytes.of_own HO.out
        obtain ⟨A3, c3, rfl, _, _, _⟩ := hR.form
        have HR := Lib.hid hR
        clear hR HO
        have HTr := Lib.hid (HT1.out.below hb2)
        go_wp2_with fail
        refine (sum_any _ ps w.heap.size _ HPr.out HTr.out).mono ?_
        rw [← hLp.out]
        rintro e w' ⟨rfl, rfl⟩
        go_wp2_with fail
        refine (rsum_any _ L wr.heap.size _ HR.out).mono ?_
        rintro e w' ⟨rfl, rfl⟩
        go_wp2_with fail
        refine (sum_any _ [L] (wr.heap.size + 1) _ ?_ ?_).mono ?_
        · exact Parts.new1 _ _ rfl (Nat.le_refl _) HR.out
        · exact HTr.out.alloc _
        rw [show [L].flatten = L by simp]
        rintro e w' ⟨rfl, rfl⟩
        go_wp2_with fail
        refine (rsum_any _ L wr.heap.size _ ?_).mono ?_
        · exact HR.out.alloc (Nat.le_refl _)
        rintro e w' ⟨rfl, rfl⟩
        go_wp2_with fail
        go_ret
        exact ⟨rfl, (hb1.trans (hb2.mono hs1)).alloc (by omega) _⟩
end Go.Proofs.YtnbkkdeheedahaaDoor
