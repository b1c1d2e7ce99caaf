/- What sums.Open answers: the errors of bytes that no frame begins, in the chapter's order, and else the frame's bytes and what is behind, in memory of the call's own. -/
import Derived.Test.YtnbkkdeheedahaaDoorNumbW
import Derived.Test.YtnbkkdeheedahaaDoorNumW
import Derived.Test.YtnbkkdeheedahaaDoorCut
import Derived.Deep.QuietTactic
import Derived.BigQuiet
import Derived.Deep.RegionWith
namespace Go.Proofs.YtnbkkdeheedahaaDoor
open Go.RowKit Tide

/-- An error and nothing besides. -/
def BadOpen (x : Value) (w : World) (e : Ending) (w' : World) : Prop := e = .returned (.tuple #[.slice none 0 0, .slice none 0 0, x]) ∧ Below w.heap.size w w'

theorem below_drewN {B : Nat} {a w : World} (h : Below B a w) (n : Nat) : Below B a (w.drewN n) := ⟨h.os, h.tape, h.output, h.size, h.block⟩

set_option maxHeartbeats 400000 in
theorem open_short (v : Value) (L : List UInt8) (B : Nat) (w : World) (a : Nat → Addr) (hp : Bytes w B v L) (hE : Errs w a) (hL : L.length < 6) :
    Calls Tryd.prog 16 #[v] w (BadOpen (errAt (a 1)) w) := by
  have h1 := hE.var 1 (by omega)
  simp only [evars, List.getD_cons_zero, List.getD_cons_succ] at h1
  obtain ⟨A, c, rfl, _, _, _⟩ := hp.form
  clear hE hp
  go_enter Tryd.func16, Tryd.ntmps16
  go_wp2_with fail
  go_quiet (fail)
  go_wp2_with fail
  go_ret3
  exact ⟨rfl, below_drewN (Below.refl _ _) _⟩

set_option maxHeartbeats 400000 in
theorem open_long (v : Value) (L : List UInt8) (B : Nat) (w : World) (a : Nat → Addr) (hp : Bytes w B v L) (hE : Errs w a) (hL : 6 ≤ L.length) (hn : 2048 < leNum (L.take 2)) :
    Calls Tryd.prog 16 #[v] w (BadOpen (errAt (a 2)) w) := by
  have h1 := hE.var 2 (by omega)
  simp only [evars, List.getD_cons_zero, List.getD_cons_succ] at h1
  have HP := Lib.hid hp
  obtain ⟨A, c, rfl, _, _, hb⟩ := hp.form
  obtain ⟨b, o, rfl, _, _⟩ := hb 0 (by omega)
  clear hE hp hb
  go_enter Tryd.func16, Tryd.ntmps16
  go_wp2_with fail
  refine (number_any _ (L.take 2) B _ (HP.out.take (hi := 2) (by omega) rfl rfl (by omega) (by omega)) (by simp; omega)).mono ?_
  rintro e w' ⟨rfl, rfl⟩
  have hlt := leNum_lt (L.take 2)
  rw [show (L.take 2).length = 2 by simp; omega] at hlt
  generalize hN : leNum (L.take 2) = N at *
  have HN := Lib.hid hN
  clear hN
  go_wp2_with fail
  go_quiet (fail)
  go_wp2_with fail
  go_ret3
  exact ⟨rfl, below_drewN (Below.refl _ _) _⟩

set_option maxHeartbeats 400000 in
theorem open_cut (v : Value) (L : List UInt8) (B : Nat) (w : World) (a : Nat → Addr) (hp : Bytes w B v L) (hE : Errs w a) (hL : 6 ≤ L.length) (hn : leNum (L.take 2) ≤ 2048) (hc : L.length < leNum (L.take 2) + 6) :
    Calls Tryd.prog 16 #[v] w (BadOpen (errAt (a 1)) w) := by
  have h1 := hE.var 1 (by omega)
  simp only [evars, List.getD_cons_zero, List.getD_cons_succ] at h1
  have HP := Lib.hid hp
  obtain ⟨A, c, rfl, _, _, hb⟩ := hp.form
  obtain ⟨b, o, rfl, _, _⟩ := hb 0 (by omega)
  clear hE hp hb
  go_enter Tryd.func16, Tryd.ntmps16
  go_wp2_with fail
  refine (number_any _ (L.take 2) B _ (HP.out.take (hi := 2) (by omega) rfl rfl (by omega) (by omega)) (by simp; omega)).mono ?_
  rintro e w' ⟨rfl, rfl⟩
  generalize hN : leNum (L.take 2) = N at *
  have HN := Lib.hid hN
  clear hN
  go_wp2_with fail
  refine (size_len N hn _).mono ?_
  rintro e w' ⟨rfl, rfl⟩
  go_wp2_with fail
  go_quiet (fail)
  go_wp2_with fail
  go_ret3
  exact ⟨rfl, below_drewN (Below.refl _ _) _⟩

set_option maxHeartbeats 400000 in
theorem open_sum (v : Value) (L : List UInt8) (w : World) (a : Nat → Addr) (hp : Bytes w w.heap.size v L) (ht : TabIn w) (hE : Errs w a) (N : Nat) (hN : leNum (L.take 2) = N) (hn : N ≤ 2048) (hc : N + 6 ≤ L.length)
    (hs : leNum ((L.drop 2).take 4) ≠ Crc.sum (L.take 2 ++ (L.drop 6).take N)) :
    Calls Tryd.prog 16 #[v] w (BadOpen (errAt (a 4)) w) := by
  have HE := Lib.hid hE
  have HT := Lib.hid ht
  have HN := Lib.hid hN
  obtain ⟨A, c, rfl, _, _, _⟩ := hp.form
  obtain ⟨A0, c0, l0, hl0, hr0, hB0⟩ := cut_h hp 2 2 rfl (by omega)
  obtain ⟨A1, c1, l1, hl1, hr1, hB1⟩ := cut_lh hp 6 (N + 6) 6 ((N : Int) + 6) rfl (by omega) (by omega) hc
  obtain ⟨A2, c2, l2, hl2, hr2, hB2⟩ := cut_lh hp 2 6 2 6 rfl rfl (by omega) (by omega)
  have e1 : l1 = (L.drop 6).take N := by rw [hl1.out, List.drop_take, Nat.add_sub_cancel]
  have e2 : l2 = (L.drop 2).take 4 := by rw [hl2.out, List.drop_take]
  have HS := Lib.hid (show leNum l2 ≠ Crc.sum (l0 ++ l1) by rw [e1, e2, hl0.out]; exact hs)
  have hk0 : l0.length ≤ 4 := by rw [hl0.out]; simp; omega
  have hk2 : l2.length ≤ 4 := by rw [e2]; simp; omega
  have H0 := Lib.hid hB0
  have H1 := Lib.hid hB1
  have H2 := Lib.hid hB2
  clear hE hp ht hN hs e1 e2 hB0 hB1 hB2
  go_enter Tryd.func16, Tryd.ntmps16
  go_wp2_with fail
  refine (number_any _ l0 w.heap.size _ H0.out hk0).mono ?_
  rw [hl0.out, HN.out, ← hl0.out]
  rintro e w' ⟨rfl, rfl⟩
  go_wp2_with fail
  refine (size_len N hn _).mono ?_
  rintro e w' ⟨rfl, rfl⟩
  go_wp2_with fail
  refine (number_any _ l2 w.heap.size _ H2.out hk2).mono ?_
  rintro e w' ⟨rfl, rfl⟩
  generalize hM : leNum l2 = M at *
  have HM := Lib.hid hM
  clear hM
  go_wp2_with fail
  refine (sum_any _ [l0, l1] (w.heap.size + 1) _ ?_ ?_).mono ?_
  · exact Parts.new2 _ _ rfl (Nat.le_refl _) H0.out H1.out
  · exact HT.out.alloc _
  rw [show [l0, l1].flatten = l0 ++ l1 by simp]
  rintro e w' ⟨rfl, rfl⟩
  have hne := ne_t HS.out
  have h1 := (HE.out.alloc (.cells #[Value.slice A0 l0.length c0, Value.slice A1 l1.length c1] 24)).var 4 (by omega)
  simp only [evars, List.getD_cons_zero, List.getD_cons_succ] at h1
  go_wp2_with fail
  go_quiet (fail)
  go_wp2_with fail
  go_ret3
  exact ⟨rfl, below_drewN ((Below.refl _ _).alloc (Nat.le_refl _) _) _⟩

/-- The frame's bytes and what is behind. -/
def GoodOpen (body rest : List UInt8) (w : World) (e : Ending) (w' : World) : Prop := ∃ v1 v2, e = .returned (.tuple #[v1, v2, .nilIface]) ∧ Bytes w' w'.heap.size v1 body ∧ Bytes w' w'.heap.size v2 rest ∧ Below w.heap.size w w'

set_option maxHeartbeats 400000 in
theorem open_good (v : Value) (L : List UInt8) (w : World) (hp : Bytes w w.heap.size v L) (ht : TabIn w) (hLL : L.length ≤ 65536) (N : Nat) (hN : leNum (L.take 2) = N) (hn : N ≤ 2048) (hc : N + 6 ≤ L.length)
    (hs : leNum ((L.drop 2).take 4) = Crc.sum (L.take 2 ++ (L.drop 6).take N)) :
    Calls Tryd.prog 16 #[v] w (GoodOpen ((L.drop 6).take N) (L.drop (N + 6)) w) := by
  have HT := Lib.hid ht
  have HN := Lib.hid hN
  obtain ⟨A, c, rfl, _, _, _⟩ := hp.form
  obtain ⟨A0, c0, l0, hl0, hr0, hB0⟩ := cut_h hp 2 2 rfl (by omega)
  obtain ⟨A1, c1, l1, hl1, hr1, hB1⟩ := cut_lh hp 6 (N + 6) 6 ((N : Int) + 6) rfl (by omega) (by omega) hc
  obtain ⟨A2, c2, l2, hl2, hr2, hB2⟩ := cut_lh hp 2 6 2 6 rfl rfl (by omega) (by omega)
  obtain ⟨A3, c3, l3, hl3, hr3, hB3⟩ := cut_l hp (N + 6) ((N : Int) + 6) (by omega) hc
  have e1 : l1 = (L.drop 6).take N := by rw [hl1.out, List.drop_take, Nat.add_sub_cancel]
  have E1 := Lib.hid e1
  have e2 : l2 = (L.drop 2).take 4 := by rw [hl2.out, List.drop_take]
  have HS := Lib.hid (show leNum l2 = Crc.sum (l0 ++ l1) by rw [e1, e2, hl0.out]; exact hs)
  have hk0 : l0.length ≤ 4 := by rw [hl0.out]; simp; omega
  have hk1 : l1.length ≤ 65536 := by rw [e1]; simp; omega
  have hk2 : l2.length ≤ 4 := by rw [e2]; simp; omega
  have hk3 : l3.length ≤ 65536 := by rw [hl3.out]; simp; omega
  have H0 := Lib.hid hB0
  have H1 := Lib.hid hB1
  have H2 := Lib.hid hB2
  have H3 := Lib.hid hB3
  clear hp ht hN hs e1 e2 hB0 hB1 hB2 hB3
  go_enter Tryd.func16, Tryd.ntmps16
  go_wp2_with fail
  refine (number_any _ l0 w.heap.size _ H0.out hk0).mono ?_
  rw [hl0.out, HN.out, ← hl0.out]
  rintro e w' ⟨rfl, rfl⟩
  go_wp2_with fail
  refine (size_len N hn _).mono ?_
  rintro e w' ⟨rfl, rfl⟩
  go_wp2_with fail
  refine (number_any _ l2 w.heap.size _ H2.out hk2).mono ?_
  rw [HS.out]
  rintro e w' ⟨rfl, rfl⟩
  go_wp2_with fail
  refine (sum_any _ [l0, l1] (w.heap.size + 1) _ ?_ ?_).mono ?_
  · exact Parts.new2 _ _ rfl (Nat.le_refl _) H0.out H1.out
  · exact HT.out.alloc _
  rw [show [l0, l1].flatten = l0 ++ l1 by simp]
  rintro e w' ⟨rfl, rfl⟩
  generalize hM : Crc.sum (l0 ++ l1) = M
  have HM := Lib.hid hM
  clear hM
  go_wp2_with fail
  have hbA : Below w.heap.size w (w.alloc (.cells #[Value.slice A0 l0.length c0, Value.slice A1 l1.length c1] 24)).drew := ((Below.refl _ _).alloc (Nat.le_refl _) _).drew
  have HbA := Lib.hid hbA
  clear hbA
  have K1 := Lib.hid (show ∀ W : World, Below w.heap.size w W → Bytes W W.heap.size (.slice A1 l1.length c1) l1 from fun W hb => (H1.out.below hb).more hb.size)
  have K3 := Lib.hid (show ∀ W : World, Below w.heap.size w W → Bytes W W.heap.size (.slice A3 l3.length c3) l3 from fun W hb => (H3.out.below hb).more hb.size)
  go_region_with (first
    | (go_at_call 22; ((with_reducible refine (clone_any _ l1 _ ?_ hk1).mono ?_); exact K1.out _ HbA.out); rintro e w1 ⟨v1, rfl, hown1, hb1⟩)
    | (go_at_call 22; ((with_reducible refine (clone_any _ l3 _ ?_ hk3).mono ?_); exact K3.out _ (HbA.out.trans (hb1.mono (by simp)))); rintro e w2 ⟨v3, rfl, hown3, hb3⟩))
  all_goals
    go_wp2_with fail
    go_ret3
    refine ⟨v1, v3, rfl, ?_, ?_, (HbA.out.trans (hb1.mono (by simp))).trans (hb3.mono ?_)⟩
    · rw [← E1.out]
      exact ((Bytes.of_own hown1).below hb3).more hb3.size
    · rw [← hl3.out]
      exact Bytes.of_own hown3
    · have h1 := hb1.size
      have h2 := HbA.out.size
      simp at h1 h2 ⊢
      omega
end Go.Proofs.YtnbkkdeheedahaaDoor
