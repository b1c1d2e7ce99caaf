/- What sums.appendNumber and sums.Frame answer: the number's low bytes behind what there was; the frame of at most 2048 bytes, in memory of the call's own. -/
import Derived.Test.YtnbkkdeheedahaaDoorAliveW
import Derived.Test.YtnbkkdeheedahaaDoorApp
namespace Go.Proofs.YtnbkkdeheedahaaDoor
open Go.RowKit Tide

/-- A number's low bytes, the low one first. -/
def le (n : Nat) : Nat → List UInt8
  | 0 => []
  | k + 1 => le n k ++ [UInt8.ofNat (n / 2 ^ (8 * k))]
theorem le_length (n : Nat) : ∀ k, (le n k).length = k
  | 0 => rfl
  | k + 1 => by simp [le, le_length n k]

theorem le_snoc (l : List UInt8) (n j : Nat) : u8s (l ++ le n j) ++ [Value.int .u8 ((n : Int) / 2 ^ (8 * j) % 256)] = u8s (l ++ le n (j + 1)) := by
  simp [le, u8s]

set_option maxHeartbeats 400000 in
theorem appn_any (v : Value) (l : List UInt8) (n k base : Nat) (w : World) (hown : w.ownsRow base 5 1 v l.length (u8s l)) (hk : k ≤ 4) (hl : l.length ≤ 65536) (hbase : base ≤ w.heap.size) :
    Calls Tryd.prog 19 #[v, .int .u32 n, .int .i64 k] w fun e w' => ∃ v', e = .returned v' ∧ w'.ownsRow base 5 1 v' (l.length + k) (u8s (l ++ le n k)) ∧ Below base w w' := by
  obtain ⟨i0, hi, hz0, hz1, hz2⟩ := info_parts infoB
  have HI := Lib.hid hi
  clear hi
  go_enter Tryd.func19, Tryd.ntmps19
  go_wp2
  go_loopw [0, 9] (fun u i wr => ∃ j : Nat, j ≤ k ∧ i = .int .i64 j ∧ wr.ownsRow base 5 1 u (l.length + j) (u8s (l ++ le n j)) ∧ Below base w wr) (fun _ i _ => k - (intOf i).toNat)
  case atStart => exact ⟨0, Nat.zero_le _, rfl, by simpa [le] using hown, Below.refl _ _⟩
  case round =>
    rename_i u i wr
    obtain ⟨j, hj, rfl, hown1, hb1⟩ := hrel
    have hkk := Lib.hid hk
    by_cases hlt : j < k
    · go_wp2_with (at_builtin; refine wpList_append_own _ rfl _ _ 24 rfl base 5 i0 (.int .u8 0) 1 1 Tryd.underlying24 HI.out hz0 hz1 hz2 rfl (by decide) _ _ _ rfl (hown1.alloc _) ⟨wr.heap.size, 0, none⟩ 1 1 [.int .u8 ((n : Int) / 2 ^ (8 * j) % 256)] rfl rfl ?c1 ?c2 ?c3 ?c4 ?c5 ?_)
      case c1 => exact cell_one_new _ _ _
      case c2 => simp [Value.oneCell']
      case c3 => unfold maxLen; omega
      case c4 => omega
      case c5 => simp; have := hb1.size; omega
      intro v' w1 hown2 hg2 _
      have hb2 : Below base w w1 := (hb1.alloc (by have := hb1.size; omega) _).grown hg2 (by have := hb1.size; simp; omega) (fun g hg => (hown1.lt g hg).1)
      rw [le_snoc, Nat.add_assoc] at hown2
      clear hown1 hb1 hg2
      go_wp2
      go_roundw
      case rel => exact ⟨j + 1, by omega, by go_num, hown2, hb2⟩
      case measure => simp [intOf]; omega
    · have hjk : j = k := by omega
      subst hjk
      go_wp2
      go_ret
      exact ⟨_, rfl, hown1, hb1⟩

theorem appn2 (v : Value) (l : List UInt8) (n base : Nat) (w : World) (hown : w.ownsRow base 5 1 v l.length (u8s l)) (hl : l.length ≤ 65536) (hbase : base ≤ w.heap.size) :
    Calls Tryd.prog 19 #[v, .int .u32 n, .int .i64 2] w fun e w' => ∃ v', e = .returned v' ∧ w'.ownsRow base 5 1 v' (l.length + 2) (u8s (l ++ le n 2)) ∧ Below base w w' := appn_any v l n 2 base w hown (by omega) hl hbase
theorem appn4 (v : Value) (l : List UInt8) (n base : Nat) (w : World) (hown : w.ownsRow base 5 1 v l.length (u8s l)) (hl : l.length ≤ 65536) (hbase : base ≤ w.heap.size) :
    Calls Tryd.prog 19 #[v, .int .u32 n, .int .i64 4] w fun e w' => ∃ v', e = .returned v' ∧ w'.ownsRow base 5 1 v' (l.length + 4) (u8s (l ++ le n 4)) ∧ Below base w w' := appn_any v l n 4 base w hown (by omega) hl hbase
theorem size_len (n : Nat) (h : n ≤ 2048) (w : World) : Calls Tryd.prog 15 #[.int .i64 n] w fun e w' => e = .returned (.int .i64 ((n : Int) + 6)) ∧ w = w' :=
  (size_any n w).mono fun _ _ ⟨h1, h2⟩ => ⟨by rw [h1]; unfold sizeI; rw [if_pos (by omega)], h2⟩
/-- The frame of bytes. -/
def frame (l : List UInt8) : List UInt8 := le l.length 2 ++ le (Crc.sum (le l.length 2 ++ l)) 4 ++ l
theorem frame_length (l : List UInt8) : (frame l).length = l.length + 6 := by simp [frame, le_length]; omega

set_option maxHeartbeats 400000 in
theorem frame_any (v : Value) (l : List UInt8) (w : World) (hv : Bytes w w.heap.size v l) (ht : TabIn w) (hl : l.length ≤ 2048) :
    Calls Tryd.prog 12 #[v] w fun e w' => ∃ v', e = .returned (.tuple #[v', .nilIface]) ∧ w'.ownsRow w.heap.size 5 1 v' (l.length + 6) (u8s (frame l)) ∧ Below w.heap.size w w' := by
  obtain ⟨i0, hi, hz0, hz1, hz2⟩ := info_parts infoB
  have hmk : ∀ W : World, (Instr.makeSlice 24 (.int .i64 0) (.int .i64 ((l.length : Int) + 6))).run Tryd.prog W = .ok (.slice (some ⟨W.heap.size, 0, none⟩) 0 (l.length + 6)) (W.alloc (.cells (madeCells #[.int .u8 0] (l.length + 6)) 5)) := fun W => by
    have h := run_make (P := Tryd.prog) W 24 5 i0 (.int .u8 0) Tryd.underlying24 hi hz0 .i64 .i64 0 ((l.length : Int) + 6) (by omega) (by omega) (by rw [hz2]; omega) (by omega)
    rw [hz1] at h
    rw [show ((l.length : Int) + 6).toNat = l.length + 6 by omega, Nat.mul_one] at h
    exact h
  have HI := Lib.hid hi
  have HT := Lib.hid ht
  obtain ⟨A, c, rfl, _, _, _⟩ := hv.form
  have HV := Lib.hid hv
  clear hi ht hv
  go_enter Tryd.func12, Tryd.ntmps12
  go_wp2_with (go_at_call 15; refine (size_len l.length hl _).mono ?_; rintro e w' ⟨rfl, rfl⟩)
  refine (appn2 _ [] l.length w.heap.size _ ?_ (by simp) (by simp)).mono ?_
  · exact own_new _ _ _ _ _ _ _ _ rfl (Nat.le_refl _) (by simp) (by unfold maxLen; omega) (by rw [size_madeCells]) (by simp [u8s])
  rintro e w1 ⟨v1, rfl, hown1, hb0⟩
  have hb1 : Below w.heap.size w w1 := ((Below.refl _ _).alloc (Nat.le_refl _) _).trans hb0
  clear hb0
  have hV1 := HV.out.below hb1
  have hT1 := Lib.hid (HT.out.below hb1)
  have hO1 := hown1
  rw [List.nil_append, List.length_nil, Nat.zero_add] at hO1
  have hB1 := hb1.size
  have hR1 := (Bytes.of_own (l := le l.length 2) hO1)
  obtain ⟨A1, c1, rfl, _, _, _⟩ := hR1.form
  have HO1 := Lib.hid hO1
  have HR1 := Lib.hid hR1
  have HV1 := Lib.hid hV1
  clear hV1 hown1 hO1 hR1
  go_wp2_with fail
  refine (sum_any _ [le l.length 2, l] (w1.heap.size + 1) _ ?_ ?_).mono ?_
  · exact Parts.new2 _ _ rfl (Nat.le_refl _) HR1.out (HV1.out.more hB1)
  · exact hT1.out.alloc _
  rintro e w2 ⟨rfl, rfl⟩
  rw [show [le l.length 2, l].flatten = le l.length 2 ++ l by simp]
  generalize hS : Crc.sum (le l.length 2 ++ l) = S
  have HS := Lib.hid hS
  clear hS
  go_wp2_with fail
  refine (appn4 _ (le l.length 2) S w.heap.size _ ?_ (by rw [le_length]; omega) (by simp; omega)).mono ?_
  · exact (by rw [le_length]; exact HO1.out.alloc _)
  rintro e w3 ⟨v3, rfl, hown3, hb3⟩
  have hV3 := Lib.hid ((HV1.out.alloc hB1).below hb3)
  have hb4 : Below w.heap.size w w3 := (hb1.alloc hB1 _).trans hb3
  have HO3 := Lib.hid hown3
  clear hown3
  go_wp2_with (at_builtin; refine wpList_append_row _ rfl (.tmp 24) (.tmp 25) _ rfl w.heap.size 5 i0 (.int .u8 0) 1 Tryd.underlying24 HI.out hz0 hz1 hz2 rfl _ _ _ rfl HO3.out w.heap.size _ (u8s l) rfl hV3.out (u8s_one l) ?d1 ?d2 ?d3 ?_)
  case d1 => rw [le_length, u8s_length]; unfold maxLen; omega
  case d2 => rw [le_length, u8s_length]; omega
  case d3 => exact hb4.size
  intro v4 w4 hown4 hg4 _
  have hb5 := hb4.grown hg4 hb4.size (fun g hg => (HO3.out.lt g hg).1)
  rw [le_length, u8s_length, ← u8s_append, show 2 + 4 + l.length = l.length + 6 by omega, ← HS.out] at hown4
  clear hb1 hb3 hb4 hg4 HO3
  go_wp2_with fail
  go_ret2
  exact ⟨v4, rfl, hown4, hb5⟩
end Go.Proofs.YtnbkkdeheedahaaDoor
