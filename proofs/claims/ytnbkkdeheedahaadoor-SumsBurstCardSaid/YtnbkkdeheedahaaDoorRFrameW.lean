/- What the document's own answer tidewaterref01.Frame is: the frame of bytes, in memory of the call's own. -/
import Derived.Test.YtnbkkdeheedahaaDoorNumbW
namespace Go.Proofs.YtnbkkdeheedahaaDoor
open Go.RowKit Tide

theorem own_le {w : World} {base n : Nat} {v : Value} {xs ys : List Value} (h : w.ownsRow base 5 1 v n xs) (e : xs = ys) : w.ownsRow base 5 1 v n ys := e ▸ h
theorem le2_cells (n : Nat) (h : n ≤ 65535) : [Value.int .u8 ((n : Int) % 256), Value.int .u8 ((n : Int) / 256)] = u8s (le n 2) := by
  have : (n : Int) / 256 = (n : Int) / 256 % 256 := by omega
  simp only [le, u8s, List.nil_append, List.cons_append, List.map_cons, List.map_nil]
  rw [this]
  simp
theorem le4_cells (n : Nat) : [Value.int .u8 ((n : Int) % 256), Value.int .u8 ((n : Int) / 256 % 256), Value.int .u8 ((n : Int) / 65536 % 256), Value.int .u8 ((n : Int) / 16777216 % 256)] = u8s (le n 4) := by
  simp [le, u8s]

set_option maxHeartbeats 400000 in
theorem rframe_any (v : Value) (l : List UInt8) (w : World) (hp : Bytes w w.heap.size v l) (hl : l.length ≤ 65535) :
    Calls Tryd.prog 17 #[v] w fun e w' => ∃ v', e = .returned v' ∧ w'.ownsRow w.heap.size 5 1 v' (l.length + 6) (u8s (frame l)) ∧ Below w.heap.size w w' := by
  obtain ⟨i0, hi, hz0, hz1, hz2⟩ := info_parts infoB
  have HI := Lib.hid hi
  have HP := Lib.hid hp
  obtain ⟨A, c, rfl, _, _, _⟩ := hp.form
  clear hi hp
  go_enter Tryd.func17, Tryd.ntmps17
  go_wp2_with (at_builtin; refine wpList_append_row _ rfl (.tmp 15) (.tmp 16) _ rfl w.heap.size 5 i0 (.int .u8 0) 1 Tryd.underlying24 HI.out hz0 hz1 hz2 rfl _ 0 [] rfl ?a1 (w.heap.size + 1) _ (u8s (le l.length 2)) rfl ?a2 (u8s_one _) ?a3 ?a4 ?a5 ?_)
  case a1 => exact own_new _ _ _ _ _ _ _ _ (by simp) (by simp) (by simp) (by simp [maxLen]) rfl (by simp)
  case a2 => exact (Bytes.new w _ _ _ _ _ (le l.length 2) rfl (le2_cells l.length hl) (by rw [le_length]) (by omega)).alloc (by simp)
  case a3 => rw [u8s_length, le_length]; unfold maxLen; omega
  case a4 => rw [u8s_length, le_length]; omega
  case a5 => simp; omega
  intro v1 w1 hown1 hg1 hat1
  have hN0 : (w.alloc (.cells #[.int .u8 ((l.length : Int) % 256), .int .u8 ((l.length : Int) / 256)] 5)).ownsRow w.heap.size 5 1 (.slice (some ⟨w.heap.size, 0, none⟩) 2 2) 2 (u8s (le l.length 2)) :=
    own_new _ _ _ _ _ _ _ _ rfl (Nat.le_refl _) (Nat.le_refl _) (by simp [maxLen]) rfl (by rw [← le2_cells l.length hl]; rfl)
  have hN1 := (hN0.alloc (.cells #[] 5)).kept hg1 (.inr (by simp [Value.ownBlock]))
  have hb1 := (((Below.refl w.heap.size w).alloc (Nat.le_refl _) (.cells #[.int .u8 ((l.length : Int) % 256), .int .u8 ((l.length : Int) / 256)] 5)).alloc (by simp) (.cells #[] 5)).grown hg1 (by simp; omega) (fun g hg => by simp [Value.ownBlock] at hg; omega)
  have ha1 : v1.ownBlock ≠ some w.heap.size := by
    rcases hat1 with e | e <;> rw [e] <;> simp [Value.ownBlock] <;> omega
  rw [u8s_length, le_length] at hown1
  have HO1 := Lib.hid hown1
  have HN1 := Lib.hid hN1
  have HB1 := Lib.hid hb1
  have HA1 := Lib.hid ha1
  clear hown1 hg1 hat1 hN0 hN1 hb1 ha1
  go_wp2_with (at_builtin; refine wpList_append_row _ rfl (.tmp 17) (.tmp 18) _ rfl w.heap.size 5 i0 (.int .u8 0) 1 Tryd.underlying24 HI.out hz0 hz1 hz2 rfl _ _ _ rfl HO1.out w.heap.size _ (u8s l) rfl (HP.out.below HB1.out) (u8s_one _) ?b3 ?b4 ?b5 ?_)
  case b3 => rw [u8s_length]; unfold maxLen; omega
  case b4 => rw [u8s_length]; omega
  case b5 => exact HB1.out.size
  intro v2 w2 hown2 hg2 _
  have hb2 := HB1.out.grown hg2 HB1.out.size (fun g hg => (HO1.out.lt g hg).1)
  have hN2 := HN1.out.kept hg2 (.inr (fun e => HA1.out (by rw [← e]; rfl)))
  rw [u8s_length, ← u8s_append, show 0 + 2 + l.length = (le l.length 2 ++ l).length by rw [List.length_append, le_length, Nat.zero_add]] at hown2
  have HR2 := Lib.hid (Bytes.of_own hown2)
  have HN2 := Lib.hid hN2
  have HB2 := Lib.hid hb2
  clear hown2 hg2 hN2 hb2 HO1 HN1 HA1
  go_wp2_with fail
  refine (rsum_any _ (le l.length 2 ++ l) w2.heap.size _ HR2.out).mono ?_
  rintro e w' ⟨rfl, rfl⟩
  generalize hS : Crc.sum (le l.length 2 ++ l) = S
  have HS := Lib.hid hS
  clear hS
  go_wp2_with (at_builtin; refine wpList_append_row _ rfl (.tmp 21) (.tmp 33) _ rfl w.heap.size 5 i0 (.int .u8 0) 1 Tryd.underlying24 HI.out hz0 hz1 hz2 rfl _ 2 _ rfl (HN2.out.alloc _) (w2.heap.size + 1) _ (u8s (le S 4)) rfl ?c2 (u8s_one _) ?c3 ?c4 ?c5 ?_)
  case c2 => exact Bytes.new w2 _ _ _ _ _ (le S 4) rfl (le4_cells S) (by rw [le_length]) (by omega)
  case c3 => rw [u8s_length, le_length]; unfold maxLen; omega
  case c4 => rw [u8s_length, le_length]; omega
  case c5 => have := HB2.out.size; simp; omega
  intro v3 w3 hown3 hg3 _
  have hb3 := (HB2.out.alloc HB2.out.size _).grown hg3 (by have := HB2.out.size; simp; omega) (fun g hg => (HN2.out.lt g hg).1)
  rw [u8s_length, le_length, ← u8s_append] at hown3
  have HO3 := Lib.hid hown3
  have HB3 := Lib.hid hb3
  clear hown3 hg3 hb3
  go_wp2_with (at_builtin; refine wpList_append_row _ rfl (.tmp 35) (.tmp 36) _ rfl w.heap.size 5 i0 (.int .u8 0) 1 Tryd.underlying24 HI.out hz0 hz1 hz2 rfl _ _ _ rfl HO3.out w.heap.size _ (u8s l) rfl (HP.out.below HB3.out) (u8s_one _) ?d3 ?d4 ?d5 ?_)
  case d3 => rw [u8s_length]; unfold maxLen; omega
  case d4 => rw [u8s_length]; omega
  case d5 => exact HB3.out.size
  intro v4 w4 hown4 hg4 _
  have hb4 := HB3.out.grown hg4 HB3.out.size (fun g hg => (HO3.out.lt g hg).1)
  rw [u8s_length, ← u8s_append, ← HS.out, show 2 + 4 + l.length = l.length + 6 by omega] at hown4
  have HO4 := Lib.hid hown4
  clear hown4 hg4
  go_wp2_with fail
  go_ret
  exact ⟨v4, rfl, HO4.out, hb4⟩
end Go.Proofs.YtnbkkdeheedahaaDoor
