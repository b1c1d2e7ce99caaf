/- What the document's own answer tidewaterref01.Open is: the errors' numbers, and else the frame's bytes and what is behind. -/
import Derived.Test.YtnbkkdeheedahaaDoorRFrameW
import Derived.Test.YtnbkkdeheedahaaDoorRoomW
import Derived.Deep.RegionWith
import Derived.Deep.RegionLaw
namespace Go.Proofs.YtnbkkdeheedahaaDoor
open Go.RowKit Tide

/-- A number of an error and nothing besides. -/
def BadNum (k : Int) (w : World) (e : Ending) (w' : World) : Prop := e = .returned (.tuple #[.slice none 0 0, .slice none 0 0, .int .i64 k]) ∧ Below w.heap.size w w'
theorem below_drewN' {B : Nat} {a w : World} (h : Below B a w) (n : Nat) : Below B a (w.drewN n) := ⟨h.os, h.tape, h.output, h.size, h.block⟩

theorem ropen_short (v : Value) (L : List UInt8) (B : Nat) (w : World) (hp : Bytes w B v L) (hL : L.length < 6) :
    Calls Tryd.prog 18 #[v] w (BadNum 2 w) := by
  obtain ⟨A, c, rfl, _, _, _⟩ := hp.form
  clear hp
  go_enter Tryd.func18, Tryd.ntmps18
  go_wp2_with fail
  go_ret3
  exact ⟨rfl, Below.refl _ _⟩

theorem head_of {w : World} {B : Nat} {A : Option Addr} {c : Nat} {L : List UInt8} (hp : Bytes w B (.slice A L.length c) L) (h : 2 ≤ L.length) :
    ∃ b o x y : Nat, A = some ⟨b, o, none⟩ ∧ w.cell? ⟨b, o, none⟩ = some (.int .u8 x) ∧ w.cell? ⟨b, o + 1, none⟩ = some (.int .u8 y) ∧ x < 256 ∧ y < 256 ∧ leNum (L.take 2) = x + 256 * y := by
  obtain ⟨A', c', e, _, _, hb⟩ := hp.form
  injection e with e1 _ e3
  subst e1 e3
  obtain ⟨b, o, rfl, _, hc⟩ := hb 0 (by omega)
  have h0 := hc 0 (by omega)
  have h1 := hc 1 (by omega)
  rw [Nat.add_zero] at h0
  refine ⟨b, o, _, _, rfl, h0, h1, UInt8.toNat_lt _, UInt8.toNat_lt _, ?_⟩
  match L, h with
  | x :: y :: r, _ => simp [leNum]

set_option maxHeartbeats 400000 in
theorem ropen_long (v : Value) (L : List UInt8) (B : Nat) (w : World) (hp : Bytes w B v L) (hL : 6 ≤ L.length) (hn : 2048 < leNum (L.take 2)) :
    Calls Tryd.prog 18 #[v] w (BadNum 3 w) := by
  obtain ⟨A, c, rfl, _, _, _⟩ := hp.form
  have hlen := hp.len
  obtain ⟨b, o, x, y, rfl, h0, h1, hx, hy, hN⟩ := head_of hp (by omega)
  rw [hN] at hn
  clear hp hN
  go_enter Tryd.func18, Tryd.ntmps18
  go_wp2_with fail
  have e1 : IntKind.i64.wrap (256 * (y : Int)) = 256 * (y : Int) := IntWalk.i64_in _ (by omega)
  have e2 : IntKind.i64.wrap ((x : Int) + 256 * (y : Int)) = (x : Int) + 256 * (y : Int) := IntWalk.i64_in _ (by omega)
  have e3 : IntKind.i64.wrap (x : Int) = (x : Int) := IntWalk.i64_in _ (by omega)
  have e4 : IntKind.i64.wrap (y : Int) = (y : Int) := IntWalk.i64_in _ (by omega)
  have i0 : (0 : Int) < (L.length : Int) := by omega
  have i1 : (1 : Int) < (L.length : Int) := by omega
  go_quiet (fail)
  clear e1 e2 e3 e4
  go_wp2_with fail
  go_ret3
  exact ⟨rfl, below_drewN' (Below.refl _ _) _⟩

set_option maxHeartbeats 400000 in
theorem ropen_cut (v : Value) (L : List UInt8) (B : Nat) (w : World) (hp : Bytes w B v L) (hL : 6 ≤ L.length) (hn : leNum (L.take 2) ≤ 2048) (hcut : L.length < leNum (L.take 2) + 6) :
    Calls Tryd.prog 18 #[v] w (BadNum 2 w) := by
  obtain ⟨A, c, rfl, _, _, _⟩ := hp.form
  have hlen := hp.len
  obtain ⟨b, o, x, y, rfl, h0, h1, hx, hy, hN⟩ := head_of hp (by omega)
  rw [hN] at hn hcut
  clear hp hN
  go_enter Tryd.func18, Tryd.ntmps18
  go_wp2_with fail
  have e1 : IntKind.i64.wrap (256 * (y : Int)) = 256 * (y : Int) := IntWalk.i64_in _ (by omega)
  have e2 : IntKind.i64.wrap ((x : Int) + 256 * (y : Int)) = (x : Int) + 256 * (y : Int) := IntWalk.i64_in _ (by omega)
  have e3 : IntKind.i64.wrap (x : Int) = (x : Int) := IntWalk.i64_in _ (by omega)
  have e4 : IntKind.i64.wrap (y : Int) = (y : Int) := IntWalk.i64_in _ (by omega)
  have i0 : (0 : Int) < (L.length : Int) := by omega
  have i1 : (1 : Int) < (L.length : Int) := by omega
  go_quiet (fail)
  clear e1 e2 e3 e4
  go_wp2_with fail
  go_ret3
  exact ⟨rfl, below_drewN' (Below.refl _ _) _⟩

theorem leNum_inj : ∀ (a b : List UInt8), a.length = b.length → leNum a = leNum b → a = b
  | [], [], _, _ => rfl
  | [], _ :: _, h, _ => by simp at h
  | _ :: _, [], h, _ => by simp at h
  | x :: a, y :: b, h, e => by
    simp only [leNum] at e
    have hx := x.toNat_lt
    have hy := y.toNat_lt
    have h1 : x.toNat = y.toNat := by omega
    have h2 : leNum a = leNum b := by omega
    rw [UInt8.toNat_inj.1 h1, leNum_inj a b (by simpa using h) h2]
theorem le_leNum (l : List UInt8) : le (leNum l) l.length = l :=
  leNum_inj _ _ (le_length _ _) (by rw [leNum_le, Nat.mod_eq_of_lt (leNum_lt l)])
/-- The bytes are a frame's beginning if and only if the sum is right. -/
theorem frame_iff (L : List UInt8) (N : Nat) (hN : leNum (L.take 2) = N) (hc : N + 6 ≤ L.length) :
    frame ((L.drop 6).take N) = L.take (N + 6) ↔ leNum ((L.drop 2).take 4) = Crc.sum (L.take 2 ++ (L.drop 6).take N) := by
  have hl : ((L.drop 6).take N).length = N := by simp; omega
  have h2 : le N 2 = L.take 2 := by
    have := le_leNum (L.take 2)
    rw [hN, show (L.take 2).length = 2 by simp; omega] at this
    exact this
  have hd : L.take (N + 6) = L.take 2 ++ ((L.drop 2).take 4 ++ (L.drop 6).take N) := by
    rw [show N + 6 = 2 + (4 + N) by omega, List.take_add, List.take_add, List.drop_drop]
  unfold frame
  rw [hl, h2, hd, List.append_assoc, List.append_right_inj]
  have hs := Crc.sum_lt (L.take 2 ++ (L.drop 6).take N)
  generalize Crc.sum (L.take 2 ++ (L.drop 6).take N) = S at *
  have h4 : ((L.drop 2).take 4).length = 4 := by simp; omega
  constructor
  · intro h
    have := (List.append_inj h (by rw [le_length, h4])).1
    rw [← this, leNum_le, Nat.mod_eq_of_lt (by simpa using hs)]
  · intro h
    have := le_leNum ((L.drop 2).take 4)
    rw [h4, h] at this
    rw [this]
theorem text_toList (l : List UInt8) : (text l).toList = l := by rw [ByteArray.toList_eq]; simp [text]
theorem text_ne {a b : List UInt8} (h : a ≠ b) : ((text a).toList == (text b).toList) = false := by
  rw [text_toList, text_toList]
  simpa using h

set_option maxHeartbeats 400000 in
theorem ropen_sum (v : Value) (L : List UInt8) (w : World) (hp : Bytes w w.heap.size v L) (N : Nat) (hN : leNum (L.take 2) = N) (hn : N ≤ 2048) (hc6 : N + 6 ≤ L.length)
    (hs : leNum ((L.drop 2).take 4) ≠ Crc.sum (L.take 2 ++ (L.drop 6).take N)) :
    Calls Tryd.prog 18 #[v] w (BadNum 5 w) := by
  have hlen := hp.len
  have HP := Lib.hid hp
  have hfr : ¬ frame ((L.drop 6).take N) = L.take (N + 6) := fun h => hs ((frame_iff L N hN hc6).1 h)
  obtain ⟨A, c, rfl, _, _, _⟩ := hp.form
  obtain ⟨b, o, x, y, rfl, h0, h1, hx, hy, hN2⟩ := head_of hp (by omega)
  obtain rfl : x + 256 * y = N := hN2.symm.trans hN
  obtain ⟨A1, c1, l1, hl1, hr1, hB1⟩ := cut_lh hp 6 (x + 256 * y + 6) 6 (6 + ((x : Int) + 256 * y)) rfl (by omega) (by omega) hc6
  obtain ⟨A2, c2, l2, hl2, hr2, hB2⟩ := cut_h hp (x + 256 * y + 6) (6 + ((x : Int) + 256 * y)) (by omega) hc6
  have e1 : l1 = (L.drop 6).take (x + 256 * y) := by rw [hl1.out, List.drop_take, Nat.add_sub_cancel]
  have hk1 : l1.length ≤ 65535 := by rw [e1]; simp; omega
  have HF := Lib.hid (show ¬ frame l1 = l2 by rw [e1, hl2.out]; exact hfr)
  have HB1 := Lib.hid hB1
  have HB2 := Lib.hid hB2
  clear hp hN hN2 hs hfr e1 hB1 hB2
  go_enter Tryd.func18, Tryd.ntmps18
  go_wp2_with fail
  have e1 : IntKind.i64.wrap (256 * (y : Int)) = 256 * (y : Int) := IntWalk.i64_in _ (by omega)
  have e2 : IntKind.i64.wrap ((x : Int) + 256 * (y : Int)) = (x : Int) + 256 * (y : Int) := IntWalk.i64_in _ (by omega)
  have e3 : IntKind.i64.wrap (x : Int) = (x : Int) := IntWalk.i64_in _ (by omega)
  have e4 : IntKind.i64.wrap (y : Int) = (y : Int) := IntWalk.i64_in _ (by omega)
  have i0 : (0 : Int) < (L.length : Int) := by omega
  have i1 : (1 : Int) < (L.length : Int) := by omega
  go_quiet (fail)
  clear e1 e2 e3 e4
  go_wp2_with fail
  have K1 := Lib.hid (show ∀ W : World, Below w.heap.size w W → Bytes W W.heap.size (.slice A1 l1.length c1) l1 from fun W hb => (HB1.out.below hb).more hb.size)
  have K2 := Lib.hid (show ∀ W : World, Below w.heap.size w W → Bytes W W.heap.size (.slice A2 l2.length c2) l2 from fun W hb => (HB2.out.below hb).more hb.size)
  have cv2 := fun n => conv_bytes (K2.out _ (below_drewN' (Below.refl _ _) n))
  have e5 : IntKind.i64.wrap (6 + ((x : Int) + 256 * (y : Int))) = 6 + ((x : Int) + 256 * (y : Int)) := IntWalk.i64_in _ (by omega)
  go_region_with (first
    | (go_at_call 17; ((with_reducible refine (rframe_any _ l1 _ ?_ hk1).mono ?_); exact K1.out _ (below_drewN' (Below.refl _ _) _)); rintro e w1 ⟨v1, rfl, hown1, hb1⟩; have cw1 := conv_bytes (Bytes.of_own hown1); have cw2 := conv_bytes (K2.out _ ((below_drewN' (Below.refl _ _) _).trans hb1)); have hne := text_ne HF.out))
  all_goals
    go_wp2_with fail
    go_ret3
    exact ⟨rfl, (below_drewN' (Below.refl _ _) _).trans hb1⟩
end Go.Proofs.YtnbkkdeheedahaaDoor
