/- The law of Size, walked: it answers true, wherever the table of package sums lies, and leaves what there was as it was. -/
import Derived.Test.YtnbkkdeheedahaaDoorFrameW
namespace Go.Proofs.YtnbkkdeheedahaaDoor
open Go.RowKit Tide

theorem size_out (n : Int) (h : ¬ (0 ≤ n ∧ n ≤ 2048)) (w : World) : Calls Tryd.prog 15 #[.int .i64 n] w fun e w' => e = .returned (.int .i64 0) ∧ w = w' :=
  (size_any n w).mono fun _ _ ⟨h1, h2⟩ => ⟨by rw [h1]; unfold sizeI; rw [if_neg h], h2⟩
/-- The bytes of make([]byte, n), for every n that a frame takes. -/
theorem make_bytes (n : Nat) (h : n ≤ 65536) : ∀ W : World, (Instr.makeSlice 24 (.int .i64 n) (.int .i64 n)).run Tryd.prog W = .ok (.slice (some ⟨W.heap.size, 0, none⟩) n n) (W.alloc (.cells (madeCells #[.int .u8 0] n) 5)) := fun W => by
  obtain ⟨i0, hi, hz0, hz1, hz2⟩ := info_parts infoB
  have h := run_make (P := Tryd.prog) W 24 5 i0 (.int .u8 0) Tryd.underlying24 hi hz0 .i64 .i64 n n (by omega) (by omega) (by rw [hz2]; omega) (by omega)
  rw [hz1] at h
  rw [Int.toNat_natCast, Nat.mul_one] at h
  exact h
theorem bytes_made (n : Nat) (h : n ≤ 65536) (W : World) : Bytes (W.alloc (.cells (madeCells #[.int .u8 0] n) 5)) (W.heap.size + 1) (.slice (some ⟨W.heap.size, 0, none⟩) n n) (List.replicate n 0) :=
  Bytes.new W _ _ _ _ _ _ rfl (by rw [toList_madeCells_one]; simp [u8s]) (by simp) (by omega)

set_option maxHeartbeats 400000 in
theorem size_law (n : Int) (w : World) (ht : TabIn w) :
    Calls Tryd.prog 7 #[.int .i64 n] w fun e w' => e = .returned (.bool true) ∧ Below w.heap.size w w' := by
  have hT := Lib.hid ht
  clear ht
  by_cases hn : 0 ≤ n ∧ n ≤ 2048
  · obtain ⟨m, rfl⟩ := Int.eq_ofNat_of_zero_le hn.1
    have hm : m ≤ 2048 := by omega
    clear hn
    have hmk := make_bytes m (by omega)
    go_enter Tryd.func7, Tryd.ntmps7
    go_wp2_with fail
    refine (alive_any _ hT.out).mono ?_
    rintro e w1 ⟨rfl, hb1⟩
    have hT1 := Lib.hid (hT.out.below hb1)
    go_wp2_with fail
    refine (frame_any _ (List.replicate m 0) _ ?_ ?_ (by simpa using hm)).mono ?_
    · exact (bytes_made m (by omega) w1).more (by simp)
    · exact hT1.out.alloc _
    rintro e w2 ⟨v2, rfl, hown2, hb2⟩
    rw [List.length_replicate] at hown2
    obtain ⟨g, cap, hv, _, _⟩ := hown2.form (by omega)
    subst hv
    clear hown2
    go_wp2_with fail
    refine (size_len m hm _).mono ?_
    rintro e w' ⟨rfl, rfl⟩
    go_wp2_with fail
    go_ret
    exact ⟨rfl, (hb1.alloc hb1.size _).trans (hb2.mono (by have := hb1.size; simp; omega))⟩
  · have hb := Lib.hid hn
    by_cases h0 : n < 0
    all_goals
      go_enter Tryd.func7, Tryd.ntmps7
      go_wp2_with fail
      refine (alive_any _ hT.out).mono ?_
      rintro e w1 ⟨rfl, hb1⟩
      clear hn
      go_wp2_with fail
      refine (size_out n hb.out _).mono ?_
      rintro e w' ⟨rfl, rfl⟩
      go_wp2_with fail
      go_ret
      exact ⟨rfl, hb1⟩
end Go.Proofs.YtnbkkdeheedahaaDoor
