/- What the project's cut, First and Rest answer: the first n runes of a right text, and what is behind them. -/
import Derived.Test.YtbjhmpjnffhioaaDoorRightW
import Derived.Test.YtbjhmpjnffhioaaDoorUtfN
import Derived.Laws.RangeAny
import Derived.Deep.QuietTactic
import Derived.BigQuiet
namespace Go.Proofs.YtbjhmpjnffhioaaDoor
open Go.RowKit Go.Shelf Tide Utf

/-- How many runes the first part has. -/
def cutAt (n : Int) (l : List Nat) : Nat := min (max n 0).toNat l.length
theorem cutAt_here {n : Int} {l : List Nat} {k : Nat} (h1 : (k : Int) ≤ max n 0) (h2 : n ≤ k) (h3 : k ≤ l.length) : cutAt n l = k := by unfold cutAt; omega
theorem cutAt_all {n : Int} {l : List Nat} (h1 : (l.length : Int) ≤ max n 0) : cutAt n l = l.length := by unfold cutAt; omega
theorem front_txt {s : ByteArray} {l : List Nat} {i k : Nat} (h0 : runes s 0 = some l) (h : At s l i k) : s.extract 0 i = txt (l.take k) := by
  apply bytes_ext
  rw [extract_list, List.drop_zero, h.front h0, txt_list]
theorem behind_txt {s : ByteArray} {l : List Nat} {i k : Nat} (h : At s l i k) : s.extract i s.size = txt (l.drop k) := by
  apply bytes_ext
  rw [extract_list, List.take_of_length_le (by simp), h.behind, txt_list]
theorem ret_tup {a b c d : ByteArray} (h : a = c) (h2 : b = d) : Ending.returned (.tuple #[.string a, .string b]) = .returned (.tuple #[.string c, .string d]) := by rw [h, h2]

theorem cut_none (s : ByteArray) (n : Int) (w : World) (hs : s.size ≤ 65536) (hT : Tabs w) (h : runes s 0 = none) :
    Calls Tryd.prog 29 #[.string s, .int .i64 n] w fun e w' => e = .returned (.tuple #[.string ⟨#[]⟩, .string ⟨#[]⟩]) ∧ Below w.heap.size w w' := by
  have cR := right_neg w (by omega) hT h
  clear h
  go_enter Tryd.func29, Tryd.ntmps29
  go_wp2_with fail
  refine cR.mono ?_
  rintro e w1 ⟨rfl, hb⟩
  go_wp2_with fail
  go_ret2
  exact ⟨rfl, hb⟩
set_option maxHeartbeats 1000000 in
theorem cut_some {s : ByteArray} {l : List Nat} (n : Int) (w : World) (hs : s.size ≤ 65536) (hT : Tabs w) (h : runes s 0 = some l) :
    Calls Tryd.prog 29 #[.string s, .int .i64 n] w fun e w' => e = .returned (.tuple #[.string (txt (l.take (cutAt n l))), .string (txt (l.drop (cutAt n l)))]) ∧ Below w.heap.size w w' := by
  generalize hANS : txt (l.take (cutAt n l)) = A1
  generalize hANS2 : txt (l.drop (cutAt n l)) = A2
  have HA1 := Lib.hid hANS
  have HA2 := Lib.hid hANS2
  have HR := Lib.hid h
  have hlen := len_le h
  have cR := right_pos w (by omega) hT h
  clear hANS hANS2 h
  go_enter Tryd.func29, Tryd.ntmps29
  go_wp2_with fail
  refine cR.mono ?_
  rintro e w1 ⟨rfl, hb⟩
  have HB := Lib.hid hb
  clear hb cR
  go_wp2_with fail
  go_loopw [6] (fun z w' => ∃ (i k : Nat), w' = w1.iter s i ∧ z = .int .i64 k ∧ k ≤ l.length ∧ Hid (At s l i k) ∧ Hid ((k : Int) ≤ max n 0)) (fun _ w' => s.size - w'.iterPos w1.heap.size)
  case atStart => exact ⟨0, 0, rfl, rfl, Nat.zero_le _, Lib.hid (at_zero HR.out), Lib.hid (by omega)⟩
  case round =>
    obtain ⟨i, k, rfl, rfl, hkl, hat, hmx⟩ := hrel
    by_cases hi : i < s.size
    · obtain ⟨hk, m, e1, e2, _, hn1, hn4, hin, hc1, hc2, hat2⟩ := hat.out.next hi
      have hnx : ∀ ty, (Instr.next (.pointer (some ⟨w1.heap.size, 0, none⟩)) true ty).run Tryd.prog (w1.iter s i) = _ := fun ty => run_next_any w1 s i ty hi
      rw [e1, e2] at hnx
      have hat2 := Lib.hid hat2
      clear e1 e2 hc2
      generalize l[k] = c at *
      by_cases hn : n ≤ k
      · have hcut := Lib.hid (cutAt_here hmx.out hn (show k ≤ l.length by omega))
        have hz0 : (0 : Int) ≤ (i : Int) := by omega
        have hz1 : (i : Int) ≤ (s.size : Int) := by omega
        go_wp2_with fail
        go_quiet (fail)
        go_wp2_with fail
        go_ret2
        exact ⟨ret_tup (by rw [← HA1.out, hcut.out]; exact front_txt HR.out hat.out) (by rw [← HA2.out, hcut.out]; exact behind_txt hat.out), below_drawn (below_iter HB.out HB.out.size _ _) _⟩
      · go_wp2_with fail
        go_roundw
        case rel => exact ⟨i + m, k + 1, rfl, by go_num, hk, hat2, Lib.hid (by omega)⟩
        case measure => simp; omega
    · have hnx : ∀ ty, (Instr.next (.pointer (some ⟨w1.heap.size, 0, none⟩)) true ty).run Tryd.prog (w1.iter s i) = _ := fun ty => run_next_end w1 s i ty hi
      have hk := (hat.out.stop hi).1
      have hcut := Lib.hid (cutAt_all (by rw [← hk]; exact hmx.out))
      clear hk
      go_wp2_with fail
      go_ret2
      exact ⟨ret_tup (by rw [← HA1.out, hcut.out, List.take_length]; exact txt_of HR.out) (by rw [← HA2.out, hcut.out, List.drop_length]; rfl), below_iter HB.out HB.out.size _ _⟩

theorem first_none (s : ByteArray) (n : Int) (w : World) (hs : s.size ≤ 65536) (hT : Tabs w) (h : runes s 0 = none) :
    Calls Tryd.prog 15 #[.string s, .int .i64 n] w fun e w' => e = .returned (.string ⟨#[]⟩) ∧ Below w.heap.size w w' := by
  have c := cut_none s n w hs hT h
  clear h
  go_enter Tryd.func15, Tryd.ntmps15
  go_wp2_with fail
  refine c.mono ?_
  rintro e w1 ⟨rfl, hb⟩
  go_wp2_with fail
  go_ret
  exact ⟨rfl, hb⟩
theorem rest_none (s : ByteArray) (n : Int) (w : World) (hs : s.size ≤ 65536) (hT : Tabs w) (h : runes s 0 = none) :
    Calls Tryd.prog 16 #[.string s, .int .i64 n] w fun e w' => e = .returned (.string ⟨#[]⟩) ∧ Below w.heap.size w w' := by
  have c := cut_none s n w hs hT h
  clear h
  go_enter Tryd.func16, Tryd.ntmps16
  go_wp2_with fail
  refine c.mono ?_
  rintro e w1 ⟨rfl, hb⟩
  go_wp2_with fail
  go_ret
  exact ⟨rfl, hb⟩
theorem first_some {s : ByteArray} {l : List Nat} (n : Int) (w : World) (hs : s.size ≤ 65536) (hT : Tabs w) (h : runes s 0 = some l) (t : ByteArray) (ht : Hid (txt (l.take (cutAt n l)) = t)) :
    Calls Tryd.prog 15 #[.string s, .int .i64 n] w fun e w' => e = .returned (.string t) ∧ Below w.heap.size w w' := by
  have c := cut_some n w hs hT h
  rw [ht.out] at c
  generalize txt (l.drop (cutAt n l)) = t2 at c
  clear h
  go_enter Tryd.func15, Tryd.ntmps15
  go_wp2_with fail
  refine c.mono ?_
  rintro e w1 ⟨rfl, hb⟩
  go_wp2_with fail
  go_ret
  exact ⟨rfl, hb⟩
theorem rest_some {s : ByteArray} {l : List Nat} (n : Int) (w : World) (hs : s.size ≤ 65536) (hT : Tabs w) (h : runes s 0 = some l) (t : ByteArray) (ht : Hid (txt (l.drop (cutAt n l)) = t)) :
    Calls Tryd.prog 16 #[.string s, .int .i64 n] w fun e w' => e = .returned (.string t) ∧ Below w.heap.size w w' := by
  have c := cut_some n w hs hT h
  rw [ht.out] at c
  generalize txt (l.take (cutAt n l)) = t2 at c
  clear h
  go_enter Tryd.func16, Tryd.ntmps16
  go_wp2_with fail
  refine c.mono ?_
  rintro e w1 ⟨rfl, hb⟩
  go_wp2_with fail
  go_ret
  exact ⟨rfl, hb⟩
end Go.Proofs.YtbjhmpjnffhioaaDoor
