/- What the project's After answers: the least text behind all that begin with one. -/
import Derived.Test.YtbjhmpjnffhioaaDoorRightW
import Derived.Test.YtbjhmpjnffhioaaDoorUtfN
import Derived.Laws.RangeAny
import Derived.Laws.Runes
import Derived.Laws.Cover4
import Derived.Laws.Concat
import Derived.Deep.QuietTactic
import Derived.BigQuiet
namespace Go.Proofs.YtbjhmpjnffhioaaDoor
open Go.RowKit Go.Shelf Tide Utf

theorem next_any (c : Nat) (w : World) (h : c ≤ 1114111) :
    Calls Tryd.prog 33 #[.int .i32 (c : Int)] w fun e w' => e = .returned (.int .i32 (nxt c : Nat)) ∧ w' = w := by
  by_cases hc : c = 55295
  · subst hc
    go_enter Tryd.func33, Tryd.ntmps33
    go_wp2
    go_ret
    exact ⟨rfl, rfl⟩
  · have h1 : ((c : Int) == 55295) = false := by rw [beq_eq_false_iff_ne]; omega
    have hn := Lib.hid (show ((nxt c : Nat) : Int) = (c : Int) + 1 by unfold nxt; rw [if_neg hc]; omega)
    clear hc
    go_enter Tryd.func33, Tryd.ntmps33
    go_wp2
    go_ret
    exact ⟨by rw [hn.out]; rfl, rfl⟩

/-- The text behind all that begin with one. -/
def afterT (s : ByteArray) : ByteArray := match runes s 0 with
  | none => ⟨#[]⟩
  | some l => match after l with
    | none => ⟨#[]⟩
    | some m => txt m
theorem after_none (s : ByteArray) (w : World) (hs : s.size ≤ 65536) (hT : Tabs w) (h : runes s 0 = none) :
    Calls Tryd.prog 21 #[.string s] w fun e w' => e = .returned (.string ⟨#[]⟩) ∧ Below w.heap.size w w' := by
  have cR := right_neg w (by omega) hT h
  clear h
  go_enter Tryd.func21, Tryd.ntmps21
  go_wp2_with fail
  refine cR.mono ?_
  rintro e w1 ⟨rfl, hb⟩
  go_wp2_with fail
  go_ret
  exact ⟨rfl, hb⟩
theorem ret_str {a b : ByteArray} (h : a = b) : Ending.returned (.string a) = .returned (.string b) := by rw [h]

set_option maxHeartbeats 1000000 in
theorem after_some {s : ByteArray} {l : List Nat} (w : World) (hs : s.size ≤ 65536) (hT : Tabs w) (h : runes s 0 = some l) :
    Calls Tryd.prog 21 #[.string s] w fun e w' => e = .returned (.string (match after l with | none => ⟨#[]⟩ | some m => txt m)) ∧ Below w.heap.size w w' := by
  generalize hANS : (match after l with | none => ⟨#[]⟩ | some m => txt m : ByteArray) = ANS
  have HANS := Lib.hid hANS
  have HR := Lib.hid h
  have hbd := Lib.hid (bound_of h)
  have cR := right_pos w (by omega) hT h
  clear hANS h
  go_enter Tryd.func21, Tryd.ntmps21
  go_wp2_with fail
  refine cR.mono ?_
  rintro e w1 ⟨rfl, hb⟩
  have HB := Lib.hid hb
  clear hb cR
  go_wp2_with fail
  go_loopw [3, 4] (fun a r w' => ∃ (i k : Nat) (x y : Int), w' = w1.iter s i ∧ a = .int .i64 x ∧ r = .int .i32 y ∧ Hid (At s l i k) ∧ Hid (Best s l k x y)) (fun _ _ w' => s.size - w'.iterPos w1.heap.size)
  case atStart => exact ⟨0, 0, -1, 0, rfl, rfl, rfl, Lib.hid (at_zero HR.out), Lib.hid (best_zero s l 0)⟩
  case round =>
    obtain ⟨i, k, x, y, rfl, rfl, rfl, hat, hbest⟩ := hrel
    by_cases hi : i < s.size
    · obtain ⟨hk, n, e1, e2, _, hn1, hn4, hin, hc1, hc2, hat2⟩ := hat.out.next hi
      have hnx : ∀ ty, (Instr.next (.pointer (some ⟨w1.heap.size, 0, none⟩)) true ty).run Tryd.prog (w1.iter s i) = _ := fun ty => run_next_any w1 s i ty hi
      rw [e1, e2] at hnx
      have hat2 := Lib.hid hat2
      have hg : l.getD k 0 = l[k] := by rw [List.getD_eq_getElem?_getD, List.getElem?_eq_getElem hk]; rfl
      have HG := Lib.hid hg
      clear e1 e2 hc2 hg
      generalize l[k] = c at *
      by_cases c1 : c = 1114111
      · have hb2 := Lib.hid (hbest.out.top (by rw [HG.out, c1]))
        have hq : ((c : Int) == 1114111) = true := by rw [c1]; rfl
        have hq' : ((c : Int) != 1114111) = false := by rw [c1]; rfl
        clear c1
        go_wp2_with fail
        go_roundw
        case rel => exact ⟨i + n, k + 1, x, y, rfl, rfl, rfl, hat2, hb2⟩
        case measure => simp; omega
      · have hb2 := Lib.hid (best_here hat.out hi hk (by rw [HG.out]; exact c1))
        rw [HG.out] at hb2
        have hq : ((c : Int) == 1114111) = false := by rw [beq_eq_false_iff_ne]; omega
        have hq' : ((c : Int) != 1114111) = true := by rw [bne_iff_ne]; omega
        clear c1
        go_wp2_with fail
        go_roundw
        case rel => exact ⟨i + n, k + 1, _, _, rfl, rfl, rfl, hat2, hb2⟩
        case measure => simp; omega
    · have hnx : ∀ ty, (Instr.next (.pointer (some ⟨w1.heap.size, 0, none⟩)) true ty).run Tryd.prog (w1.iter s i) = _ := fun ty => run_next_end w1 s i ty hi
      have hk := (hat.out.stop hi).1
      have hbl := hbest.out
      rw [hk] at hbl
      clear hk
      by_cases hx : x < 0
      · have hno := Lib.hid (hbl.none hx)
        clear hbl
        go_wp2_with fail
        go_ret
        exact ⟨ret_str (by rw [← HANS.out, hno.out]), below_iter HB.out HB.out.size _ _⟩
      · obtain ⟨j, i', hj, hatj, hi', rfl, rfl, hc, haft⟩ := hbl.some hx
        have hm : l.getD j 0 ∈ l := by
          rw [List.getD_eq_getElem?_getD, List.getElem?_eq_getElem hj]; exact List.getElem_mem hj
        have hbc := hbd.out _ hm
        have htx := Lib.hid (after_text HR.out hatj (nxt_valid hbc.1 hbc.2 hc))
        have haft := Lib.hid haft
        have hc1 := hbc.1
        have hatj := Lib.hid hatj
        clear hbl hm hbc hc
        generalize l.getD j 0 = c at *
        have hz0 : (0 : Int) ≤ (i' : Int) := by omega
        have hz1 : (i' : Int) ≤ (s.size : Int) := by omega
        have hadd : ∀ W : World, (Op.stringOp .add (s.extract 0 i') (Utf8.encode ((nxt c : Nat) : Int))).run Tryd.prog W = .ok (.string (s.extract 0 i' ++ Utf8.encode ((nxt c : Nat) : Int))) W := fun W => run_string_add_sum W _ _ (by rw [ByteArray.size_extract]; have := encode_size_le ((nxt c : Nat) : Int); omega)
        go_wp2_with fail
        go_quiet ((go_at_call 33; exact Calls.quiet_of_same (next_any _ _ hc1)))
        go_wp2_with fail
        go_ret
        exact ⟨ret_str (by rw [← HANS.out, haft.out]; exact htx.out), below_drawn (below_iter HB.out HB.out.size _ _) _⟩

theorem ex1 : runes ⟨#[97, 195, 164]⟩ 0 = some [97, 228] := by decide +kernel
theorem ex2 : runes ⟨#[97, 98]⟩ 0 = some [97, 98] := by decide +kernel
theorem ex3 : (match after [97, 98] with | none => ⟨#[]⟩ | some m => txt m : ByteArray) = ⟨#[97, 99]⟩ := by rfl
/-- The chapter's examples hold. -/
theorem alive_any (w : World) (hT : Tabs w) : Calls Tryd.prog 8 #[] w fun e w' => e = .returned (.bool true) ∧ Below w.heap.size w w' := by
  have c1 := count_some w (by decide) hT ex1
  have c2 : ∀ W, Tabs W → Calls Tryd.prog 21 #[.string ⟨#[97, 98]⟩] W _ := fun W hW => after_some W (by decide) hW ex2
  rw [ex3] at c2
  have HT := Lib.hid hT
  have C2 := Lib.hid c2
  clear hT c2
  go_enter Tryd.func8, Tryd.ntmps8
  go_wp2_with fail
  refine c1.mono ?_
  rintro e w1 ⟨rfl, hb⟩
  have HB := Lib.hid hb
  clear hb c1
  go_wp2_with fail
  refine (C2.out w1 (HT.out.below HB.out)).mono ?_
  rintro e w2 ⟨rfl, hb⟩
  go_wp2_with fail
  go_ret
  exact ⟨rfl, HB.out.trans (hb.mono HB.out.size)⟩
end Go.Proofs.YtbjhmpjnffhioaaDoor
