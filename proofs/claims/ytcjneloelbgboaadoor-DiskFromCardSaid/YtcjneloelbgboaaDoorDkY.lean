/- What becomes of the pending writes, as a device's iterator hands it over: each one's sector and its first bytes: all of them, or none. -/
import Derived.Test.YtcjneloelbgboaaDoorDkU
import Derived.Test.YtcjneloelbgboaaDoorSeqZ
import Derived.RangeFuncBox
import Derived.Stop.RegionWithIn
import Derived.OwnWalkIn
import Derived.TacticsInMore
import Derived.LoopNIn
import Derived.LoopIn
namespace Go.Proofs.YtcjneloelbgboaaDoor
open Go.RowKit Tide
attribute [local go_sem] Oper.semAt_some

/-- What an iterator's variables hold. -/
structure Boxes (W : World) (b p : Nat) (kv : Int) : Prop where
  dev : Boxed W b 25 (.pointer (some ⟨p, 0, none⟩))
  kept : Boxed W (b + 1) 40 (.int .u64 kv)
  torn : Boxed W (b + 2) 3 (.int .i64 (-1))
  cut : Boxed W (b + 3) 3 (.int .i64 0)
/-- The iterator, with what it has caught. -/
abbrev outV (b : Nat) : Array Value := #[.pointer (some ⟨b, 0, none⟩), .pointer (some ⟨b + 2, 0, none⟩), .pointer (some ⟨b + 3, 0, none⟩), .pointer (some ⟨b + 1, 0, none⟩)]

theorem outcome_any (p : Nat) (kv : Int) (w : World) : Calls Tryd.prog 26 #[.pointer (some ⟨p, 0, none⟩), .int .u64 kv, .int .i64 (-1), .int .i64 0] w fun e w' => e = .returned (.func (.func 29) #[] (outV w.heap.size)) ∧ Boxes w' w.heap.size p kv ∧ Below w.heap.size w w' ∧ w.heap.size + 4 ≤ w'.heap.size := by
  have hmf : ∀ (fn : Fn) (first cap : Array Value) (w : World), (Instr.makeFunc fn first cap).run Tryd.prog w = .ok (.func fn first cap) w := fun _ _ _ _ => rfl
  go_enter Tryd.func26, Tryd.ntmps26
  go_wp2_with fail
  go_ret
  have q0 := Boxed.new w 25 (.pointer (some ⟨p, 0, none⟩))
  have q1 := Boxed.new (w.alloc (.cells #[.pointer (some ⟨p, 0, none⟩)] 25)) 40 (.int .u64 kv)
  have q2 := Boxed.new ((w.alloc (.cells #[.pointer (some ⟨p, 0, none⟩)] 25)).alloc (.cells #[.int .u64 kv] 40)) 3 (.int .i64 (-1))
  have q3 := Boxed.new (((w.alloc (.cells #[.pointer (some ⟨p, 0, none⟩)] 25)).alloc (.cells #[.int .u64 kv] 40)).alloc (.cells #[.int .i64 (-1)] 3)) 3 (.int .i64 0)
  simp only [World.size_alloc] at q1 q2 q3
  refine ⟨rfl, ⟨((q0.alloc _).alloc _).alloc _, (q1.alloc _).alloc _, q2.alloc _, q3⟩, ?_, by simp⟩
  exact ((((Below.refl w.heap.size w).alloc (Nat.le_refl _) _).alloc (by simp) _).alloc (by simp; omega) _).alloc (by simp; omega) _

/-- What a round keeps of what was there ahead of the loop: all but one block. -/
def Kz (bd : Nat) (w : World) (A B : World) : Prop := ∀ k, k < w.heap.size → k ≠ bd → B.heap[k]? = A.heap[k]?
theorem Kz_t {bd : Nat} {w A B C : World} (h : Kz bd w A B) (k : Kz bd w B C) : Kz bd w A C := fun j h1 h2 => (k j h1 h2).trans (h j h1 h2)
theorem Kz_b {bd : Nat} {w : World} (W : World) (l : Nat) (o : Obj) (hl : w.heap.size ≤ l) : Kz bd w W (W.putObj l o) := fun j h1 _ => World.putObj_heap_other (by omega)
/-- What comes behind what has come. -/
def Zt (ts : List Wr) (pre : List Wr) (x : Wr) : Prop := ∃ h : pre.length < ts.length, pre = ts.take pre.length ∧ x = ts[pre.length]
/-- A write as it is handed over: so many of its bytes. -/
abbrev encW (m : Nat) (t : Wr) : Array Value := #[.int .i64 (t.sec : Int), .slice (some ⟨t.g, 0, none⟩) m t.cap]

theorem bit_all : ∀ j, j < 64 → bits BinOp.and IntKind.u64 ((18446744073709551615 : Int) / 2 ^ j) 1 = 1 := by decide +kernel
theorem bit_none : ∀ j, j < 64 → bits BinOp.and IntKind.u64 ((0 : Int) / 2 ^ j) 1 = 0 := by decide +kernel
theorem grown_drew {W : World} (o : Obj) : W.grownBy (W.alloc o).drew none := by
  have h := World.grownBy_alloc W o none
  exact ⟨h.os, h.tape, h.output, h.size, h.block⟩
theorem Kz_alloc {bd : Nat} {w W : World} (h : Kz bd w w W) (o : Obj) : Kz bd w W (W.alloc o).drew := fun k h1 h2 => by
  have h3 := h k h1 h2
  rw [Array.getElem?_eq_getElem h1] at h3
  exact Below.heap_alloc W o k (Array.getElem?_eq_some_iff.1 h3).1

set_option maxRecDepth 100000 in
set_option maxHeartbeats 4000000 in
theorem outcome_z (n : Nat) (hn : 1 ≤ n) (kv : Int) (m : Nat) (hkm : (kv = 18446744073709551615 ∧ m = 64) ∨ (kv = 0 ∧ m = 0)) (b : Nat) (w : World) {F : Nat → Prop} {p : Nat} {img now : List UInt8} {ts : List Wr} {bd cd bn cn : Nat} {vp : Value} (h : DevB w F p img now ts bd cd bn cn vp) (hL : ts.length ≤ 100)
    (hb : Boxes w b p kv) (hbd : b ≠ bd ∧ b + 1 ≠ bd ∧ b + 2 ≠ bd ∧ b + 3 ≠ bd) :
    SeqZ Fence.wide n Tryd.prog 29 (outV b) (encW m) (Kz bd w) (fun xs => xs = ts) (Zt ts) w := fun lp J W hW hJ hY h0 => by
  have HY := Lib.hid hY
  have HJ := Lib.hid hJ
  have HD := Lib.hid h
  have HK0 := Lib.hid (show Kz bd w w W from fun k hk _ => hW.block k hk)
  have c0 := hb.dev.cell
  have cb := (show Boxed W b _ _ from (hW.block b hb.dev.lt).trans hb.dev).cell
  obtain ⟨_, _, cp, _, _, _⟩ := (h.below hW).facts
  have HB := Lib.hid hb
  obtain ⟨A, c, rfl, _, _⟩ := vp_form h
  clear hW hY hJ h c0 hb
  refine callsIn_of_wp Tryd.func29 rfl trivial ?_ rfl
  simp only [Tryd.ntmps29, List.size_toArray, List.length_cons, List.length_nil, Nat.reduceAdd, Nat.reduceSub, Array.replicate_succ, Array.replicate_zero, List.push_toArray, List.append_toArray, List.nil_append, List.cons_append]
  gi_wp2_with fail
  gi_loopw [14] (fun i wr => ∃ k : Nat, i = .int .i64 k ∧ k ≤ ts.length ∧ Hid (Kz bd w w wr) ∧ Hid (J (ts.take k) wr)) (fun i _ => ts.length - (intOf i).toNat)
  case atStart => exact ⟨0, rfl, Nat.zero_le _, HK0, Lib.hid (by simpa using h0)⟩
  case round =>
    obtain ⟨k, rfl, hk, hKz, hJp⟩ := hrel
    by_cases hlt : k < ts.length
    · obtain ⟨gp, cp', hvp, _, hgl⟩ := HD.out.pend.form (by omega)
      injection hvp with e1 _ e3
      subst e1 e3
      have hgn := HD.out.nep gp rfl
      have hat : ∀ j u, (ts[k].cells)[j]? = some u → j < 2 → wr.cell? ⟨gp, k * 2 + j, none⟩ = some u := fun j u hu hj => by
        have h1 := HD.out.pend.cells (g := gp) rfl (k * 2 + j) u (by rw [wrs_at ts k j hlt hj]; exact hu)
        rw [add_none, Nat.zero_add] at h1
        exact (World.cell?_of_block (w := w) (hKz.out gp hgl hgn.2.1)).trans h1
      have f0 := hat 0 _ rfl (by omega)
      have f1 := hat 1 _ rfl (by omega)
      rw [Nat.add_zero] at f0
      have ft : wr.cell? ⟨b + 2, 0, none⟩ = some (.int .i64 (-1)) := (World.cell?_of_block (w := w) (hKz.out _ HB.out.torn.lt hbd.2.2.1)).trans HB.out.torn.cell
      have fk : wr.cell? ⟨b + 1, 0, none⟩ = some (.int .u64 kv) := (World.cell?_of_block (w := w) (hKz.out _ HB.out.kept.lt hbd.2.1)).trans HB.out.kept.cell
      have q1 : ((k : Int) == -1) = false := by rw [beq_eq_false_iff_ne]; omega
      have g2 : b + 2 < wr.heap.size := World.block_lt_of_cell? _ _ ft
      have g1 : b + 1 < wr.heap.size := World.block_lt_of_cell? _ _ fk
      have hl : (ts.take k).length = k := by rw [List.length_take]; omega
      have HZ := Lib.hid (show Zt ts (ts.take k) ts[k] from ⟨by rw [hl]; exact hlt, by rw [hl], by simp only [hl]⟩)
      have HTK := Lib.hid (List.take_succ_eq_append_getElem hlt)
      have hcp : 64 ≤ (ts[k]).cap := by
        rcases (HD.out.wr _ (List.getElem_mem hlt)).2 with ⟨h1, _⟩ | ⟨_, _, _, h1, _, _, h2, _⟩
        · cases h1
        · injection h1 with _ _ e; rw [e]; exact h2
      have qe : (m = 64 ∧ bits BinOp.and IntKind.u64 (kv / 2 ^ (k % 64)) 1 = 1) ∨ (m = 0 ∧ bits BinOp.and IntKind.u64 (kv / 2 ^ (k % 64)) 1 = 0) := by
        rcases hkm with ⟨h1, h2⟩ | ⟨h1, h2⟩
        · exact .inl ⟨h2, by rw [h1]; exact bit_all _ (Nat.mod_lt _ (by omega))⟩
        · exact .inr ⟨h2, by rw [h1]; exact bit_none _ (Nat.mod_lt _ (by omega))⟩
      have HKM := Lib.hid hkm
      clear hat hl hkm
      generalize ts[k] = t at *
      have HJA := Lib.hid (HJ.out _ _ _ hJp.out (grown_drew (.cells #[.int .i64 (t.sec : Int), sl t.g 64 t.cap] 56)))
      have HKA := Lib.hid (Kz_t hKz.out (Kz_alloc hKz.out (.cells #[.int .i64 (t.sec : Int), sl t.g 64 t.cap] 56)))
      obtain ⟨fn, tmps, assign, body, hy, hR⟩ := HY.out (ts.take k) t _ HJA.out HZ.out
      dsimp only [encW] at hy
      have HRd := Lib.hid hR
      have HY2 := Lib.hid hy
      clear hR hy
      rcases qe with ⟨rfl, qe⟩ | ⟨rfl, qe⟩
      all_goals
        have hc64 := fun W => cut_to t.g 64 t.cap 64 64 rfl (by omega) hcp (by omega) W
        have hc0 := fun W => cut_to t.g 64 t.cap 0 0 rfl (by omega) hcp (by omega) W
        have hy := HY2.out
        gi_wp2_with fail
        gi_region_with (refine HRd.out.mono ?_; rintro e w3 ⟨rfl, hJ3, hk3⟩; have HJ3 := Lib.hid hJ3; have HK3 := Lib.hid (Kz_t HKA.out hk3); clear hJ3 hk3)
        all_goals
          clear hc64 hc0 hy HY2 HRd HJA HKA qe f0 f1 ft fk g1 g2 q1
          gi_wp2_with fail
          go_roundw
          case rel => exact ⟨k + 1, by go_num, by omega, HK3, Lib.hid (by rw [HTK.out]; exact HJ3.out)⟩
          case measure => simp [intOf]; omega
    · have hke : k = ts.length := by omega
      subst hke
      gi_wp2_with fail
      go_end0
      exact ⟨⟨_, rfl⟩, _, by rw [List.take_length], hJp.out⟩
end Go.Proofs.YtcjneloelbgboaaDoor
