/- What tidewaternum.Bytes and tidewaternum.Kept answer: a copy with marked room behind; and that a copy which nobody wrote to is found as it was. -/
import Derived.Test.YtcjneloelbgboaaDoorCut
import Derived.Test.YtcjneloelbgboaaDoorApp
import Derived.Test.YtcjneloelbgboaaDoorConv
import Derived.WalkSpells
import Derived.Deep.QuietTactic
import Derived.BigQuiet
namespace Go.Proofs.YtcjneloelbgboaaDoor
open Go.RowKit Tide

/-- The marks behind a copy. -/
def marks : List UInt8 := [201, 202, 203, 204, 205, 206]
/-- A copy with marked room behind. -/
def Room (w : World) (B : Nat) (v : Value) (l : List UInt8) : Prop :=
  ∃ b o c, v = .slice (some ⟨b, o, none⟩) l.length c ∧ Bytes w B (.slice (some ⟨b, o, none⟩) (l.length + 6) c) (l ++ marks)
theorem Room.bytes {w : World} {B : Nat} {v : Value} {l : List UInt8} (h : Room w B v l) : Bytes w B v l := by
  obtain ⟨b, o, c, rfl, hb⟩ := h
  obtain ⟨A, c', e, h1, h2, _⟩ := hb.form
  injection e with _ _ e
  subst e
  rw [List.length_append] at h1
  exact hb.take (by simp) (by simp) rfl (by omega) h2
theorem Room.below {w w' : World} {B : Nat} {v : Value} {l : List UInt8} (h : Room w B v l) (hb : Below B w w') : Room w' B v l := by
  obtain ⟨b, o, c, rfl, h⟩ := h
  exact ⟨b, o, c, rfl, h.below hb⟩
theorem Room.more {w : World} {B B' : Nat} {v : Value} {l : List UInt8} (h : Room w B v l) (hb : B ≤ B') : Room w B' v l := by
  obtain ⟨b, o, c, rfl, h⟩ := h
  exact ⟨b, o, c, rfl, h.more hb⟩

theorem make_room (n : Nat) (h : n ≤ 65536) : ∀ W : World, (Instr.makeSlice 22 (.int .i64 0) (.int .i64 ((n : Int) + 6))).run Tryd.prog W = .ok (.slice (some ⟨W.heap.size, 0, none⟩) 0 (n + 6)) (W.alloc (.cells (madeCells #[.int .u8 0] (n + 6)) 5)) := fun W => by
  obtain ⟨i0, hi, hz0, hz1, hz2⟩ := info_parts infoB
  have h := run_make (P := Tryd.prog) W 22 5 i0 (.int .u8 0) Tryd.underlying22 hi hz0 .i64 .i64 0 ((n : Int) + 6) (by omega) (by omega) (by rw [hz2]; omega) (by omega)
  rw [hz1] at h
  rw [show ((n : Int) + 6).toNat = n + 6 by omega, Nat.mul_one] at h
  exact h

set_option maxHeartbeats 400000 in
theorem nbytes_any (v : Value) (l : List UInt8) (w : World) (hp : Bytes w w.heap.size v l) (hl : l.length ≤ 65536) :
    Calls Tryd.prog 6 #[v] w fun e w' => ∃ v', e = .returned v' ∧ Room w' w'.heap.size v' l ∧ Below w.heap.size w w' := by
  obtain ⟨i0, hi, hz0, hz1, hz2⟩ := info_parts infoB
  have HI := Lib.hid hi
  have HP := Lib.hid hp
  have hmk := make_room l.length hl
  obtain ⟨A, c, rfl, _, _, _⟩ := hp.form
  clear hi hp
  go_enter Tryd.func6, Tryd.ntmps6
  go_wp2_with (at_builtin; refine wpList_append_row _ rfl (.tmp 7) (.tmp 8) _ rfl w.heap.size 5 i0 (.int .u8 0) 1 Tryd.underlying22 HI.out hz0 hz1 hz2 rfl _ 0 [] rfl ?c1 w.heap.size _ (u8s l) rfl (HP.out.alloc (Nat.le_refl _)) (u8s_one _) ?d1 ?d2 ?d3 ?_)
  case c1 => exact own_new _ _ _ _ _ _ _ _ rfl (Nat.le_refl _) (by simp) (by unfold maxLen; omega) (by rw [size_madeCells]) (by simp)
  case d1 => rw [u8s_length]; unfold maxLen; omega
  case d2 => rw [u8s_length]; omega
  case d3 => simp
  intro v1 w1 hown1 hg1 _
  have hb1 := ((Below.refl w.heap.size w).alloc (Nat.le_refl _) _).grown hg1 (by simp) (fun g hg => by simp [Value.ownBlock] at hg; omega)
  have hs1 := hb1.size
  rw [u8s_length] at hown1
  have HO1 := Lib.hid hown1
  have HB1 := Lib.hid hb1
  clear hown1 hb1 hg1 hmk
  go_wp2_with (at_builtin; refine wpList_append_row _ rfl (.tmp 9) (.tmp 10) _ rfl w.heap.size 5 i0 (.int .u8 0) 1 Tryd.underlying22 HI.out hz0 hz1 hz2 rfl _ _ _ rfl (HO1.out.alloc _) (w1.heap.size + 1) _ (u8s marks) rfl ?e1 (u8s_one _) ?e2 ?e3 ?e4 ?_)
  case e1 => exact Bytes.new w1 _ _ _ _ _ marks rfl rfl rfl (by decide)
  case e2 => rw [u8s_length, show marks.length = 6 from rfl]; unfold maxLen; omega
  case e3 => rw [u8s_length, show marks.length = 6 from rfl]; omega
  case e4 => simp; omega
  intro v2 w2 hown2 hg2 _
  have hb2 := (HB1.out.alloc hs1 _).grown hg2 (by simp; omega) (fun g hg => (HO1.out.lt g hg).1)
  have HB2 := Lib.hid hb2
  rw [u8s_length, show marks.length = 6 from rfl, ← u8s_append] at hown2
  obtain ⟨g, cap, hv, _, _⟩ := hown2.form (by omega)
  subst hv
  have hR : Bytes w2 w2.heap.size (.slice (some ⟨g, 0, none⟩) (l.length + 6) cap) (l ++ marks) := Bytes.of_own hown2
  obtain ⟨_, c3, he, hc1, hc2, _⟩ := hR.form
  injection he with e1 _ e3
  subst e1 e3
  rw [List.length_append, show marks.length = 6 from rfl] at hc1
  have HR := Lib.hid hR
  clear hown2 hg2 hb2 hR
  go_wp2_with fail
  go_ret
  exact ⟨_, rfl, ⟨g, 0, cap, rfl, HR.out⟩, HB2.out⟩

set_option maxHeartbeats 400000 in
theorem kept_yes (vi va : Value) (l : List UInt8) (B : Nat) (w : World) (hr : Room w B vi l) (hp : Bytes w B va l) (hl : l.length ≤ 65536) :
    Calls Tryd.prog 10 #[vi, va] w fun e w' => e = .returned (.bool true) ∧ ∃ n, w' = w.drewN n := by
  obtain ⟨b, o, c, rfl, hb⟩ := hr
  have HB := Lib.hid hb
  have hcv := fun n => conv_bytes (hp.drewN n)
  have HP := Lib.hid hp
  obtain ⟨A, c', rfl, _, _, _⟩ := hp.form
  obtain ⟨_, _, he, h1, h2, hcell⟩ := hb.form
  injection he with e1 _ e3
  subst e1 e3
  have HC := Lib.hid hcell
  rw [List.length_append, show marks.length = 6 from rfl] at h1
  have hcw := fun n => conv_bytes ((Room.bytes ⟨b, o, c, rfl, hb⟩ : Bytes w B (.slice (some ⟨b, o, none⟩) l.length c) l).drewN n)
  have hsl : ∀ W : World, (Instr.slice 22 (.slice (some ⟨b, o, none⟩) c c) none (some (.int .i64 l.length)) none).run Tryd.prog W = .ok (.slice (some ⟨b, o, none⟩) l.length c) W := fun W => by
    rw [run_slice_h _ _ _ _ _ elemB _ _ (by omega) (by omega), sizeB]
    have hc0 : c ≠ 0 := by omega
    simp [Result.andThen, sliced, hc0, Addr.add]
  clear hp hb hcell
  go_enter Tryd.func10, Tryd.ntmps10
  go_wp2_with fail
  have hw : IntKind.i64.wrap ((l.length : Int) + 6) = (l.length : Int) + 6 := IntWalk.i64_in _ (by omega)
  have hd : decide ((c : Int) < (l.length : Int) + 6) = false := by simp; omega
  go_quiet (fail)
  clear hw hd hsl hcv hcw
  go_wp2_with fail
  go_loop [6] (fun i => ∃ k : Nat, k ≤ 6 ∧ i = .int .i64 k) (fun i => 6 - (intOf i).toNat)
  case atStart => exact ⟨0, by omega, rfl⟩
  case round =>
    obtain ⟨k, hk, rfl⟩ := hrel
    by_cases hlt : k < 6
    · obtain ⟨_, _, e, _, hc⟩ := HC.out (l.length + k) (by simp [marks]; omega)
      injection e with e
      injection e with e1 e2
      subst e1 e2
      have hc1 := hc (l.length + k) (by simp [marks]; omega)
      rw [show ((l ++ marks)[l.length + k]'(by simp [marks]; omega)).toNat = 201 + k by
        rw [List.getElem_append_right (by omega)]
        have : ∀ k (h : k < 6), (marks[k]'(by simpa [marks] using h)).toNat = 201 + k := by decide
        simpa using this k hlt] at hc1
      rw [show ((201 + k : Nat) : Int) = 201 + (k : Int) by omega] at hc1
      clear hc
      go_wp2_with fail
      go_round
      case rel => exact ⟨k + 1, by omega, by go_num⟩
      case measure => simp [intOf]; omega
    · go_wp2_with fail
      go_ret
      exact ⟨rfl, _, rfl⟩
end Go.Proofs.YtcjneloelbgboaaDoor
