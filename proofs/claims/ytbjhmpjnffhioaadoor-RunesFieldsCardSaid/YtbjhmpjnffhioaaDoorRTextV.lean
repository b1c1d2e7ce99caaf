/- What the document's own tidewaterref02.Text answers: the bytes of a row of runes, as a text. -/
import Derived.Test.YtbjhmpjnffhioaaDoorRTextW
namespace Go.Proofs.YtbjhmpjnffhioaaDoor
open Go.RowKit Tide Utf

set_option maxHeartbeats 2000000 in
set_option maxRecDepth 1000000 in
theorem rtext_any (u : Value) (x : List Nat) (w : World) (hx : Row w w.heap.size u (intCells x)) (hl : x.length ≤ 65536) (hv : ∀ j, j < x.length → x.getD j 0 ≤ 1114111) :
    Calls Tryd.prog 17 #[u] w fun e w' => e = .returned (.string ⟨(textOf x).toArray⟩) ∧ Below w.heap.size w w' := by
  obtain ⟨i0, hi, hz0, hz1, hz2⟩ := info_parts infoU
  have HI := Lib.hid hi
  obtain ⟨hxl, A, c, rfl, hcx⟩ := ints_form hx
  have HR := Lib.hid hx
  have HV := Lib.hid hv
  clear hx hcx hi hv
  go_enter Tryd.func17, Tryd.ntmps17
  go_wp2_with fail
  go_loopw [3, 9] (fun z k wr => ∃ (i : Nat) (L : List UInt8), k = .int .i64 i ∧ i ≤ x.length ∧ L.length ≤ 4 * i ∧ Hid (L = textOf (x.take i)) ∧ wr.ownsRow w.heap.size 5 1 z L.length (u8s L) ∧ Below w.heap.size w wr) (fun _ k _ => x.length - (intOf k).toNat)
  case atStart =>
    refine ⟨0, [], rfl, Nat.zero_le _, by simp, Lib.hid rfl, ?_, (Below.refl _ _).alloc (Nat.le_refl _) _⟩
    exact own_new _ _ _ _ _ _ _ _ rfl (Nat.le_refl _) (by simp) (by simp [maxLen]) rfl rfl
  case round =>
    obtain ⟨i, L, rfl, hil, hLl, hL, hown, hb⟩ := hrel
    have HO := Lib.hid hown
    have HB := Lib.hid hb
    have hs := hb.size
    clear hown hb
    by_cases hlt : i < x.length
    · obtain ⟨_, A', c', he, hcs⟩ := ints_form (HR.out.keep (below_cells HB.out))
      injection he with e1' e2' e3'
      obtain ⟨b, o, hA, hcell⟩ := hcs i hlt
      subst e1' e3' hA
      have hc := HV.out i hlt
      have hn := Lib.hid (show textOf (x.take (i + 1)) = L ++ enc (x.getD i 0) by
        rw [List.take_succ_eq_append_getElem hlt, textOf_append, textOf_one, ← hL.out, List.getD_eq_getElem?_getD, List.getElem?_eq_getElem hlt]; rfl)
      generalize x.getD i 0 = q at *
      clear hcs
      have hel := enc_len q
      by_cases q1 : q < 128
      · have hw1 : IntKind.u8.wrap ((q : Int)) = (q : Int) := by rw [IntKind.wrap_u8]; omega
        go_wp2_with (at_builtin; refine wpList_append_row _ rfl (.tmp 37) (.tmp 40) _ rfl w.heap.size 5 i0 (.int .u8 0) 1 Tryd.underlying48 HI.out hz0 hz1 hz2 rfl _ _ _ rfl (HO.out.alloc _) (wr.heap.size + 1) _ (u8s (enc q)) rfl ?c1 (u8s_one _) ?d1 ?d2 ?d3 ?_)
        case c1 => exact Bytes.new _ _ _ _ _ _ _ rfl (e1 q q1) (by have := congrArg List.length (e1 q q1); rw [u8s_length] at this; simpa using this) (by simp)
        case d1 => rw [u8s_length]; unfold maxLen; omega
        case d2 => rw [u8s_length]; omega
        case d3 => exact Nat.le_succ_of_le hs
        intro v9 w9 hown9 hg9 _
        have hb9 := (HB.out.alloc hs _).grown hg9 (HB.out.alloc hs _).size (fun g hg => (HO.out.lt g hg).1)
        rw [u8s_length, ← u8s_append, ← List.length_append, ← hn.out] at hown9
        have HO9 := Lib.hid hown9
        have HB9 := Lib.hid hb9
        have hl9 : (textOf (x.take (i + 1))).length ≤ 4 * (i + 1) := by rw [hn.out, List.length_append]; omega
        clear hown9 hg9 hb9
        go_wp2_with fail
        go_roundw
        case rel => exact ⟨i + 1, _, by go_num, by omega, hl9, Lib.hid rfl, HO9.out, HB9.out⟩
        case measure => simp [intOf]; omega
      by_cases q2 : q < 2048
      · have hw1 : IntKind.u8.wrap (192 + (q : Int) / 64) = 192 + (q : Int) / 64 := by rw [IntKind.wrap_u8]; omega
        have hw2 : IntKind.u8.wrap (128 + (q : Int) % 64) = 128 + (q : Int) % 64 := by rw [IntKind.wrap_u8]; omega
        go_wp2_with (at_builtin; refine wpList_append_row _ rfl (.tmp 45) (.tmp 54) _ rfl w.heap.size 5 i0 (.int .u8 0) 1 Tryd.underlying48 HI.out hz0 hz1 hz2 rfl _ _ _ rfl (HO.out.alloc _) (wr.heap.size + 1) _ (u8s (enc q)) rfl ?c1 (u8s_one _) ?d1 ?d2 ?d3 ?_)
        case c1 => exact Bytes.new _ _ _ _ _ _ _ rfl (e2 q q1 q2) (by have := congrArg List.length (e2 q q1 q2); rw [u8s_length] at this; simpa using this) (by simp)
        case d1 => rw [u8s_length]; unfold maxLen; omega
        case d2 => rw [u8s_length]; omega
        case d3 => exact Nat.le_succ_of_le hs
        intro v9 w9 hown9 hg9 _
        have hb9 := (HB.out.alloc hs _).grown hg9 (HB.out.alloc hs _).size (fun g hg => (HO.out.lt g hg).1)
        rw [u8s_length, ← u8s_append, ← List.length_append, ← hn.out] at hown9
        have HO9 := Lib.hid hown9
        have HB9 := Lib.hid hb9
        have hl9 : (textOf (x.take (i + 1))).length ≤ 4 * (i + 1) := by rw [hn.out, List.length_append]; omega
        clear hown9 hg9 hb9
        go_wp2_with fail
        go_roundw
        case rel => exact ⟨i + 1, _, by go_num, by omega, hl9, Lib.hid rfl, HO9.out, HB9.out⟩
        case measure => simp [intOf]; omega
      by_cases q3 : q < 65536
      · have hw1 : IntKind.u8.wrap (224 + (q : Int) / 4096) = 224 + (q : Int) / 4096 := by rw [IntKind.wrap_u8]; omega
        have hw2 : IntKind.u8.wrap (128 + (q : Int) / 64 % 64) = 128 + (q : Int) / 64 % 64 := by rw [IntKind.wrap_u8]; omega
        have hw3 : IntKind.u8.wrap (128 + (q : Int) % 64) = 128 + (q : Int) % 64 := by rw [IntKind.wrap_u8]; omega
        go_wp2_with (at_builtin; refine wpList_append_row _ rfl (.tmp 59) (.tmp 73) _ rfl w.heap.size 5 i0 (.int .u8 0) 1 Tryd.underlying48 HI.out hz0 hz1 hz2 rfl _ _ _ rfl (HO.out.alloc _) (wr.heap.size + 1) _ (u8s (enc q)) rfl ?c1 (u8s_one _) ?d1 ?d2 ?d3 ?_)
        case c1 => exact Bytes.new _ _ _ _ _ _ _ rfl (e3 q q2 q3) (by have := congrArg List.length (e3 q q2 q3); rw [u8s_length] at this; simpa using this) (by simp)
        case d1 => rw [u8s_length]; unfold maxLen; omega
        case d2 => rw [u8s_length]; omega
        case d3 => exact Nat.le_succ_of_le hs
        intro v9 w9 hown9 hg9 _
        have hb9 := (HB.out.alloc hs _).grown hg9 (HB.out.alloc hs _).size (fun g hg => (HO.out.lt g hg).1)
        rw [u8s_length, ← u8s_append, ← List.length_append, ← hn.out] at hown9
        have HO9 := Lib.hid hown9
        have HB9 := Lib.hid hb9
        have hl9 : (textOf (x.take (i + 1))).length ≤ 4 * (i + 1) := by rw [hn.out, List.length_append]; omega
        clear hown9 hg9 hb9
        go_wp2_with fail
        go_roundw
        case rel => exact ⟨i + 1, _, by go_num, by omega, hl9, Lib.hid rfl, HO9.out, HB9.out⟩
        case measure => simp [intOf]; omega
      · have hw1 : IntKind.u8.wrap (240 + (q : Int) / 262144) = 240 + (q : Int) / 262144 := by rw [IntKind.wrap_u8]; omega
        have hw2 : IntKind.u8.wrap (128 + (q : Int) / 4096 % 64) = 128 + (q : Int) / 4096 % 64 := by rw [IntKind.wrap_u8]; omega
        have hw3 : IntKind.u8.wrap (128 + (q : Int) / 64 % 64) = 128 + (q : Int) / 64 % 64 := by rw [IntKind.wrap_u8]; omega
        have hw4 : IntKind.u8.wrap (128 + (q : Int) % 64) = 128 + (q : Int) % 64 := by rw [IntKind.wrap_u8]; omega
        go_wp2_with (at_builtin; refine wpList_append_row _ rfl (.tmp 13) (.tmp 32) _ rfl w.heap.size 5 i0 (.int .u8 0) 1 Tryd.underlying48 HI.out hz0 hz1 hz2 rfl _ _ _ rfl (HO.out.alloc _) (wr.heap.size + 1) _ (u8s (enc q)) rfl ?c1 (u8s_one _) ?d1 ?d2 ?d3 ?_)
        case c1 => exact Bytes.new _ _ _ _ _ _ _ rfl (e4 q q3 hc) (by have := congrArg List.length (e4 q q3 hc); rw [u8s_length] at this; simpa using this) (by simp)
        case d1 => rw [u8s_length]; unfold maxLen; omega
        case d2 => rw [u8s_length]; omega
        case d3 => exact Nat.le_succ_of_le hs
        intro v9 w9 hown9 hg9 _
        have hb9 := (HB.out.alloc hs _).grown hg9 (HB.out.alloc hs _).size (fun g hg => (HO.out.lt g hg).1)
        rw [u8s_length, ← u8s_append, ← List.length_append, ← hn.out] at hown9
        have HO9 := Lib.hid hown9
        have HB9 := Lib.hid hb9
        have hl9 : (textOf (x.take (i + 1))).length ≤ 4 * (i + 1) := by rw [hn.out, List.length_append]; omega
        clear hown9 hg9 hb9
        go_wp2_with fail
        go_roundw
        case rel => exact ⟨i + 1, _, by go_num, by omega, hl9, Lib.hid rfl, HO9.out, HB9.out⟩
        case measure => simp [intOf]; omega
    · have hkl := Lib.hid (show L = textOf x by rw [hL.out, List.take_of_length_le (by omega)])
      have hcv := own_text HO.out
      rw [hkl.out] at hcv
      go_wp2_with fail
      go_ret
      exact ⟨rfl, HB.out⟩
end Go.Proofs.YtbjhmpjnffhioaaDoor
