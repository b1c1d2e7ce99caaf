/- What runes.Key answers, whatever the library's test of a text answers: over whatever its two tables of UTF-8 hold. -/
import Derived.Test.YtcddgllckadodaaDoorGRightW
import Derived.Test.YtcddgllckadodaaDoorGKinP
import Derived.Test.YtcddgllckadodaaDoorGUtfV
import Derived.Laws.RangeAny
namespace Go.Proofs.YtcddgllckadodaaDoor
open Go.RowKit Tide Utf

/-- Whether there is a rune from place i on that no key has (however the text is decoded). -/
def badFrom (s : ByteArray) : Nat → Nat → Bool
  | 0, _ => false
  | f + 1, i => if i < s.size then (decide ((Utf8.decode s i).1 < 32) || decide ((Utf8.decode s i).1 = 127)) || badFrom s f (i + (Utf8.decode s i).2) else false
theorem bad_end (s : ByteArray) (f i : Nat) (h : ¬ i < s.size) : badFrom s f i = false := by
  cases f with
  | zero => rfl
  | succ f => unfold badFrom; rw [if_neg h]
theorem bad_step (s : ByteArray) (f i : Nat) (h : i < s.size) (hf : s.size - i ≤ f) : badFrom s f i = ((decide ((Utf8.decode s i).1 < 32) || decide ((Utf8.decode s i).1 = 127)) || badFrom s (f - 1) (i + (Utf8.decode s i).2)) := by
  cases f with
  | zero => omega
  | succ f => conv => lhs; unfold badFrom
              rw [if_pos h]; rfl
/-- The number of a key's error, where V is what the library's test answers. -/
def keyV (V : ByteArray → Bool) (s : ByteArray) : Nat := if V s = false then 6 else if Lib.runeCount s = 0 then 2 else if 24 < Lib.runeCount s then 3 else if badFrom s s.size 0 then 7 else 0
/-- The library's test of a text answers V, where T is what lies. -/
structure ValidSpec (T : World → Prop) (V : ByteArray → Bool) : Prop where
  keepT : ∀ W W', T W → Below W.heap.size W W' → T W'
  valid : ∀ (W : World) s, s.size ≤ 300 → T W → Calls Tryd.prog 74 #[.string s] W fun e w' => e = .returned (.bool (V s)) ∧ Below W.heap.size W w'
section
variable {T : World → Prop} {V : ByteArray → Bool}
theorem rightV_any (hV : ValidSpec T V) (s : ByteArray) (w : World) (hs : s.size ≤ 300) (hT : T w) :
    Calls Tryd.prog 72 #[.string s] w fun e w' => e = .returned (.bool (V s)) ∧ Below w.heap.size w w' := by
  have cV := Lib.hid (hV.valid w s hs hT)
  clear hV hT
  go_enter Tryd.func72, Tryd.ntmps72
  go_wp2_with fail
  refine cV.out.mono ?_
  rintro e w1 ⟨rfl, hb⟩
  have HB := Lib.hid hb
  clear hb
  go_wp2_with fail
  go_ret
  exact ⟨rfl, HB.out⟩
theorem countV_any (hV : ValidSpec T V) (s : ByteArray) (w : World) (hs : s.size ≤ 300) (hT : T w) :
    Calls Tryd.prog 71 #[.string s] w fun e w' => e = .returned (.int .i64 (if V s = false then -1 else (Lib.runeCount s : Nat))) ∧ Below w.heap.size w w' := by
  have cR := Lib.hid (rightV_any hV s w hs hT)
  have cC := Lib.hid (show ∀ W, Calls Tryd.prog 73 #[.string s] W _ from fun W => Any.utf8_RuneCountInString Tryd.lays195 s W (by omega))
  clear hV hT
  generalize Lib.runeCount s = n at *
  cases hv : V s with
  | false =>
    rw [hv] at cR
    go_enter Tryd.func71, Tryd.ntmps71
    go_wp2_with fail
    refine cR.out.mono ?_
    rintro e w1 ⟨rfl, hb⟩
    have HB := Lib.hid hb
    clear hb
    go_wp2_with fail
    go_ret
    exact ⟨rfl, HB.out⟩
  | true =>
    rw [hv] at cR
    go_enter Tryd.func71, Tryd.ntmps71
    go_wp2_with fail
    refine cR.out.mono ?_
    rintro e w1 ⟨rfl, hb⟩
    have HB := Lib.hid hb
    clear hb
    go_wp2_with fail
    refine (cC.out _).mono ?_
    rintro e w2 ⟨rfl, p, rfl⟩
    go_wp2_with fail
    go_ret
    exact ⟨rfl, below_iter HB.out HB.out.size _ _⟩
set_option maxHeartbeats 1000000 in
theorem keyV_any (hV : ValidSpec T V) (a : Nat → Addr) (s : ByteArray) (w : World) (hs : s.size ≤ 300) (hT : T w) (hE : Errs w a) :
    Calls Tryd.prog 70 #[.string s] w fun e w' => ∃ x, e = .returned x ∧ IsErr a x (keyV V s) ∧ Below w.heap.size w w' := by
  have HKV := Lib.hid (show keyV V s = if V s = false then 6 else if Lib.runeCount s = 0 then 2 else if 24 < Lib.runeCount s then 3 else if badFrom s s.size 0 then 7 else 0 from rfl)
  have cC := countV_any hV s w hs hT
  have HE := Lib.hid hE
  clear hV hT hE
  have hrc := Lib.runeCount_le s
  generalize Lib.runeCount s = n at *
  cases hv : V s with
  | false =>
    rw [hv] at cC HKV
    have HK := Lib.hid (show keyV V s = 5 + 1 from HKV.out)
    have CC := Lib.hid cC
    clear hv cC
    go_enter Tryd.func70, Tryd.ntmps70
    go_wp2_with fail
    refine CC.out.mono ?_
    rintro e w1 ⟨rfl, hb⟩
    have HB := Lib.hid hb
    have hc := (HE.out.below hb).var 5 (by omega)
    simp only [evars, List.getD_cons_zero, List.getD_cons_succ] at hc
    clear hb CC
    go_wp2_with fail
    go_ret
    exact ⟨_, rfl, by rw [HK.out]; exact isErr_at a 5 (by omega), HB.out⟩
  | true =>
    rw [hv, if_neg (by simp)] at cC HKV
    have CC := Lib.hid cC
    clear hv cC
    go_enter Tryd.func70, Tryd.ntmps70
    go_wp2_with fail
    refine CC.out.mono ?_
    rintro e w1 ⟨rfl, hb⟩
    have HB := Lib.hid hb
    have HE1 := Lib.hid (HE.out.below hb)
    clear hb CC
    by_cases h0 : n = 0
    · have HK := Lib.hid (show keyV V s = 1 + 1 from HKV.out.trans (if_pos h0))
      have hc := HE1.out.var 1 (by omega)
      simp only [evars, List.getD_cons_zero, List.getD_cons_succ] at hc
      subst h0
      go_wp2_with fail
      go_ret
      exact ⟨_, rfl, by rw [HK.out]; exact isErr_at a 1 (by omega), HB.out⟩
    by_cases h24 : 24 < n
    · have HK := Lib.hid (show keyV V s = 2 + 1 from (HKV.out.trans (if_neg h0)).trans (if_pos h24))
      have hc := HE1.out.var 2 (by omega)
      simp only [evars, List.getD_cons_zero, List.getD_cons_succ] at hc
      have hz : ((n : Int) == 0) = false := by rw [beq_eq_false_iff_ne]; omega
      clear h0
      go_wp2_with fail
      go_ret
      exact ⟨_, rfl, by rw [HK.out]; exact isErr_at a 2 (by omega), HB.out⟩
    have HK := Lib.hid ((HKV.out.trans (if_neg h0)).trans (if_neg h24))
    have hz : ((n : Int) == 0) = false := by rw [beq_eq_false_iff_ne]; omega
    clear h0
    go_wp2_with fail
    go_loopw [] (fun w' => ∃ i f : Nat, w' = w1.iter s i ∧ Hid (s.size - i ≤ f ∧ badFrom s s.size 0 = badFrom s f i)) (fun w' => s.size - w'.iterPos w1.heap.size)
    case atStart => exact ⟨0, s.size, rfl, Lib.hid ⟨by omega, rfl⟩⟩
    case round =>
      obtain ⟨i, f, rfl, hf⟩ := hrel
      by_cases hi : i < s.size
      · have hnx : ∀ ty, (Instr.next (.pointer (some ⟨w1.heap.size, 0, none⟩)) true ty).run Tryd.prog (w1.iter s i) = _ := fun ty => run_next_any w1 s i ty hi
        have hw := Lib.decode_width_pos s i hi
        have hst := Lib.hid (hf.out.2.trans (bad_step s f i hi hf.out.1))
        have hle := decode_le s i
        generalize (Utf8.decode s i).1 = c at *
        generalize (Utf8.decode s i).2 = m at *
        by_cases c1 : c < 32
        · have hbad := Lib.hid (show keyV V s = 6 + 1 by rw [HK.out, hst.out]; simp [c1])
          have hc := (HE1.out.alloc (.stringIter s (i + m))).var 6 (by omega)
          have hc' : (w1.iter s (i + m)).cell? ⟨6, 0, none⟩ = some (errAt (a 6)) := hc
          clear hc
          go_wp2_with fail
          go_ret
          exact ⟨_, rfl, by rw [hbad.out]; exact isErr_at a 6 (by omega), below_iter HB.out HB.out.size _ _⟩
        by_cases c2 : c = 127
        · have hbad := Lib.hid (show keyV V s = 6 + 1 by rw [HK.out, hst.out]; simp [c2])
          have hc := (HE1.out.alloc (.stringIter s (i + m))).var 6 (by omega)
          have hc' : (w1.iter s (i + m)).cell? ⟨6, 0, none⟩ = some (errAt (a 6)) := hc
          clear hc
          subst c2
          go_wp2_with fail
          go_ret
          exact ⟨_, rfl, by rw [hbad.out]; exact isErr_at a 6 (by omega), below_iter HB.out HB.out.size _ _⟩
        have hgood := Lib.hid (show badFrom s s.size 0 = badFrom s (f - 1) (i + m) by rw [hst.out]; simp [c1, c2])
        have c3 : ((c : Int) == 127) = false := by simp; omega
        have hfm := Lib.hid (show s.size - (i + m) ≤ f - 1 by have := hf.out.1; omega)
        clear c2
        go_wp2_with fail
        go_roundw
        case rel => exact ⟨i + m, f - 1, rfl, Lib.hid ⟨hfm.out, hgood.out⟩⟩
        case measure => simp; omega
      · have hnx : ∀ ty, (Instr.next (.pointer (some ⟨w1.heap.size, 0, none⟩)) true ty).run Tryd.prog (w1.iter s i) = _ := fun ty => run_next_end w1 s i ty hi
        have hbad := Lib.hid (show keyV V s = 0 by rw [HK.out, hf.out.2, bad_end s f i hi]; rfl)
        go_wp2_with fail
        go_ret
        exact ⟨_, rfl, by rw [hbad.out]; exact isErr_nil a, below_iter HB.out HB.out.size _ _⟩
/-- What runes.Key answers, over whatever tables. -/
theorem keySpec_V (a : Nat → Addr) (hV : ValidSpec T V) : KeySpec a T (keyV V) where
  keepT := hV.keepT
  key := fun W s hs hT hE => keyV_any hV a s W hs hT hE
end
end Go.Proofs.YtcddgllckadodaaDoor
