/- What the project's Key answers: the error of a text that is no key. -/
import Derived.Test.YtlblappalhofmaaDoorRightW
import Derived.Test.YtlblappalhofmaaDoorUtfA
import Derived.Test.YtlblappalhofmaaDoorNumA
import Derived.Test.YtlblappalhofmaaDoorRKeyW
import Derived.Laws.RangeAny
namespace Go.Proofs.YtlblappalhofmaaDoor
open Go.RowKit Go.Shelf Tide Utf

/-- The error of a text that is no key. -/
def KeyR (a : Nat → Addr) (s : ByteArray) (w : World) (e : Ending) (w' : World) : Prop := ∃ x, e = .returned x ∧ IsErr a x (keyNum s) ∧ Below w.heap.size w w'
theorem keyR {a : Nat → Addr} {s : ByteArray} {w w' : World} (m : Nat) (hm : m < 19) (hk : keyNum s = m + 1) (hb : Below w.heap.size w w') : KeyR a s w (.returned (errAt (a m))) w' :=
  ⟨_, rfl, by rw [hk]; exact isErr_at a m hm, hb⟩
theorem keyR0 {a : Nat → Addr} {s : ByteArray} {w w' : World} (hk : keyNum s = 0) (hb : Below w.heap.size w w') : KeyR a s w (.returned .nilIface) w' :=
  ⟨_, rfl, by rw [hk]; exact isErr_nil a, hb⟩
theorem errs_at {w : World} {a : Nat → Addr} (hE : Errs w a) : w.cell? ⟨5, 0, none⟩ = some (errAt (a 5)) ∧ w.cell? ⟨2, 0, none⟩ = some (errAt (a 1)) ∧ w.cell? ⟨3, 0, none⟩ = some (errAt (a 2)) ∧ w.cell? ⟨6, 0, none⟩ = some (errAt (a 6)) :=
  ⟨hE.var 5 (by omega), hE.var 1 (by omega), hE.var 2 (by omega), hE.var 6 (by omega)⟩

set_option maxHeartbeats 1000000 in
theorem key_any (a : Nat → Addr) (s : ByteArray) (w : World) (hs : s.size ≤ 65536) (hT : Tabs w) (hE : Errs w a) :
    Calls Tryd.prog 18 #[.string s] w (KeyR a s w) := by
  cases hr : runes s 0 with
  | none =>
    have HK := Lib.hid (show keyNum s = 5 + 1 by unfold keyNum; rw [hr])
    have cC := count_none s w (by omega) hT hr
    have HE := Lib.hid hE
    clear hr hT hE
    go_enter Tryd.func18, Tryd.ntmps18
    go_wp2_with fail
    refine cC.mono ?_
    rintro e w1 ⟨rfl, hb⟩
    have HB := Lib.hid hb
    have hc := (errs_at (HE.out.below hb)).1
    clear hb cC
    go_wp2_with fail
    go_ret
    exact keyR 5 (by omega) HK.out HB.out
  | some l =>
    have HKl := Lib.hid (show keyNum s = if l.length = 0 then 2 else if 24 < l.length then 3 else if l.any badRune then 7 else 0 by unfold keyNum; rw [hr])
    have cC := count_some w (by omega) hT hr
    have HE := Lib.hid hE
    have HR := Lib.hid hr
    have hlen := len_le hr
    clear hr hT hE
    go_enter Tryd.func18, Tryd.ntmps18
    go_wp2_with fail
    refine cC.mono ?_
    rintro e w1 ⟨rfl, hb⟩
    have HB := Lib.hid hb
    have HE1 := Lib.hid (HE.out.below hb)
    clear hb cC
    by_cases h0 : l.length = 0
    · have HK := Lib.hid (show keyNum s = 1 + 1 from HKl.out.trans (if_pos h0))
      have hc := (errs_at HE1.out).2.1
      have hz : ((l.length : Int) == 0) = true := by rw [h0]; rfl
      clear h0
      go_wp2_with fail
      go_ret
      exact keyR 1 (by omega) HK.out HB.out
    by_cases h24 : 24 < l.length
    · have HK := Lib.hid (show keyNum s = 2 + 1 from (HKl.out.trans (if_neg h0)).trans (if_pos h24))
      have hc := (errs_at HE1.out).2.2.1
      have hz : ((l.length : Int) == 0) = false := by rw [beq_eq_false_iff_ne]; omega
      clear h0
      go_wp2_with fail
      go_ret
      exact keyR 2 (by omega) HK.out HB.out
    have HK := Lib.hid ((HKl.out.trans (if_neg h0)).trans (if_neg h24))
    have hz : ((l.length : Int) == 0) = false := by rw [beq_eq_false_iff_ne]; omega
    clear h0
    go_wp2_with fail
    go_loopw [] (fun w' => ∃ i k : Nat, w' = w1.iter s i ∧ Hid (At s l i k) ∧ Hid (l.any badRune = (l.drop k).any badRune)) (fun w' => s.size - w'.iterPos w1.heap.size)
    case atStart => exact ⟨0, 0, rfl, Lib.hid (at_zero HR.out), Lib.hid (by simp)⟩
    case round =>
      obtain ⟨i, k, rfl, hat, hany⟩ := hrel
      by_cases hi : i < s.size
      · obtain ⟨hk, n, e1, e2, _, hn1, hn4, hin, hc1, hc2, hat2⟩ := hat.out.next hi
        have hnx : ∀ ty, (Instr.next (.pointer (some ⟨w1.heap.size, 0, none⟩)) true ty).run Tryd.prog (w1.iter s i) = _ := fun ty => run_next_any w1 s i ty hi
        rw [e1, e2] at hnx
        have hd := Lib.hid (show l.any badRune = (badRune l[k] || (l.drop (k + 1)).any badRune) by rw [hany.out, any_drop l k hk])
        have hat2 := Lib.hid hat2
        clear e1 e2 hc2
        generalize l[k] = c at *
        by_cases c1 : c < 32
        · have hbad := Lib.hid (show keyNum s = 6 + 1 by rw [HK.out, hd.out]; simp [badRune, c1])
          have hc := (errs_at ((HE1.out.alloc (.stringIter s (i + n))))).2.2.2
          have hc' : (w1.iter s (i + n)).cell? ⟨6, 0, none⟩ = some (errAt (a 6)) := hc
          clear hc
          go_wp2_with fail
          go_ret
          exact keyR 6 (by omega) hbad.out (below_iter HB.out HB.out.size _ _)
        by_cases c2 : c = 127
        · have hbad := Lib.hid (show keyNum s = 6 + 1 by rw [HK.out, hd.out]; simp [badRune, c2])
          have hc := (errs_at ((HE1.out.alloc (.stringIter s (i + n))))).2.2.2
          have hc' : (w1.iter s (i + n)).cell? ⟨6, 0, none⟩ = some (errAt (a 6)) := hc
          clear hc
          subst c2
          go_wp2_with fail
          go_ret
          exact keyR 6 (by omega) hbad.out (below_iter HB.out HB.out.size _ _)
        have hgood := Lib.hid (show l.any badRune = (l.drop (k + 1)).any badRune by rw [hd.out]; simp [badRune, c1, c2])
        have c3 : ((c : Int) == 127) = false := by simp; omega
        clear c2
        go_wp2_with fail
        go_roundw
        case rel => exact ⟨i + n, k + 1, rfl, hat2, hgood⟩
        case measure => simp; omega
      · have hnx : ∀ ty, (Instr.next (.pointer (some ⟨w1.heap.size, 0, none⟩)) true ty).run Tryd.prog (w1.iter s i) = _ := fun ty => run_next_end w1 s i ty hi
        have hk := Lib.hid (hat.out.stop hi).1
        have hbad := Lib.hid (show keyNum s = 0 by rw [HK.out, hany.out, hk.out]; simp)
        go_wp2_with fail
        go_ret
        exact keyR0 hbad.out (below_iter HB.out HB.out.size _ _)
end Go.Proofs.YtlblappalhofmaaDoor
