/- What becomes of the pending writes, as a device's iterator hands it over: each one's sector and its first bytes: all of them, or none. -/
import Derived.Test.YtiafamacjpgjoaaGreatDoorGDgU
import Derived.Test.YtiafamacjpgjoaaGreatDoorGDgS
import Derived.RangeFuncBox
import Derived.Stop.RegionWithIn
import Derived.OwnWalkIn
import Derived.TacticsInMore
import Derived.LoopNIn
import Derived.LoopIn
namespace Go.Proofs.YtiafamacjpgjoaaGreatDoor
open Go.RowKit Tide
attribute [local go_sem] Oper.semAt_some

structure Boxes (W : World) (b p : Nat) (kv torn cut : Int) : Prop where
  dev : Boxed W b 89 (.pointer (some ⟨p, 0, none⟩))
  kept : Boxed W (b + 1) 169 (.int .u64 kv)
  torn : Boxed W (b + 2) 3 (.int .i64 torn)
  cut : Boxed W (b + 3) 3 (.int .i64 cut)
abbrev outV (b : Nat) : Array Value := #[.pointer (some ⟨b, 0, none⟩), .pointer (some ⟨b + 2, 0, none⟩), .pointer (some ⟨b + 3, 0, none⟩), .pointer (some ⟨b + 1, 0, none⟩)]

theorem outcome_any (p : Nat) (kv torn cut : Int) (w : World) : Calls Tryz.prog 171 #[.pointer (some ⟨p, 0, none⟩), .int .u64 kv, .int .i64 torn, .int .i64 cut] w fun e w' => e = .returned (.func (.func 174) #[] (outV w.heap.size)) ∧ Boxes w' w.heap.size p kv torn cut ∧ Below w.heap.size w w' ∧ w.heap.size + 4 ≤ w'.heap.size := by
  have hmf : ∀ (fn : Fn) (first cap : Array Value) (w : World), (Instr.makeFunc fn first cap).run Tryz.prog w = .ok (.func fn first cap) w := fun _ _ _ _ => rfl
  go_enter Tryz.func171, Tryz.ntmps171
  go_wp2_with fail
  go_ret
  have q0 := Boxed.new w 89 (.pointer (some ⟨p, 0, none⟩))
  have q1 := Boxed.new (w.alloc (.cells #[.pointer (some ⟨p, 0, none⟩)] 89)) 169 (.int .u64 kv)
  have q2 := Boxed.new ((w.alloc (.cells #[.pointer (some ⟨p, 0, none⟩)] 89)).alloc (.cells #[.int .u64 kv] 169)) 3 (.int .i64 torn)
  have q3 := Boxed.new (((w.alloc (.cells #[.pointer (some ⟨p, 0, none⟩)] 89)).alloc (.cells #[.int .u64 kv] 169)).alloc (.cells #[.int .i64 torn] 3)) 3 (.int .i64 cut)
  simp only [World.size_alloc] at q1 q2 q3
  refine ⟨rfl, ⟨((q0.alloc _).alloc _).alloc _, (q1.alloc _).alloc _, q2.alloc _, q3⟩, ?_, by simp⟩
  exact ((((Below.refl w.heap.size w).alloc (Nat.le_refl _) _).alloc (by simp) _).alloc (by simp; omega) _).alloc (by simp; omega) _

def Kz (bd : Nat) (w : World) (A B : World) : Prop := ∀ k, k < w.heap.size → k ≠ bd → B.heap[k]? = A.heap[k]?
theorem Kz_t {bd : Nat} {w A B C : World} (h : Kz bd w A B) (k : Kz bd w B C) : Kz bd w A C := fun j h1 h2 => (k j h1 h2).trans (h j h1 h2)
theorem Kz_b {bd : Nat} {w : World} (W : World) (l : Nat) (o : Obj) (hl : w.heap.size ≤ l) : Kz bd w W (W.putObj l o) := fun j h1 _ => World.putObj_heap_other (by omega)
def Zt {α : Type} (ts : List α) (pre : List α) (x : α) : Prop := ∃ h : pre.length < ts.length, pre = ts.take pre.length ∧ x = ts[pre.length]
theorem Zt.at {α : Type} {ts : List α} {k : Nat} (h : k < ts.length) : Zt ts (ts.take k) ts[k] := by
  have hl : (ts.take k).length = k := by rw [List.length_take]; omega
  exact ⟨by rw [hl]; exact h, by rw [hl], by simp only [hl]⟩
theorem Zt.mem {α : Type} {ts pre : List α} {x : α} (h : Zt ts pre x) : x ∈ ts := by
  obtain ⟨h1, _, h3⟩ := h
  rw [h3]
  exact List.getElem_mem h1
abbrev encW (x : Wr × Nat) : Array Value := #[.int .i64 (x.1.sec : Int), .slice (some ⟨x.1.g, 0, none⟩) x.2 x.1.cap]

theorem bit_all : ∀ j, j < 64 → bits BinOp.and IntKind.u64 ((18446744073709551615 : Int) / 2 ^ j) 1 = 1 := by decide +kernel
theorem grown_drew {W : World} (o : Obj) : W.grownBy (W.alloc o).drew none := by
  have h := World.grownBy_alloc W o none
  exact ⟨h.os, h.tape, h.output, h.size, h.block⟩
theorem Kz_alloc {bd : Nat} {w W : World} (h : Kz bd w w W) (o : Obj) : Kz bd w W (W.alloc o).drew := fun k h1 h2 => by
  have h3 := h k h1 h2
  rw [Array.getElem?_eq_getElem h1] at h3
  exact Below.heap_alloc W o k (Array.getElem?_eq_some_iff.1 h3).1

theorem fit_w (x : Int) (h1 : -9223372036854775808 ≤ x) (h2 : x ≤ 9223372036854775807) : wrap64 x = x := by unfold wrap64; omega
theorem fit_v (x : Int) (h1 : -9223372036854775808 ≤ x) (h2 : x ≤ 9223372036854775807) : IntKind.i64.wrap x = x := by simp [IntKind.wrap, IntKind.signed, IntKind.bits]; omega
theorem mod65 (a : Int) : ∃ r : Int, a.tmod 65 = r ∧ -64 ≤ r ∧ r ≤ 64 ∧ (r + 65) % 65 = a % 65 := by
  refine ⟨_, rfl, ?_⟩
  rcases Int.le_total 0 a with h | h
  · rw [Int.tmod_eq_emod_of_nonneg h]; omega
  · obtain ⟨b, rfl⟩ : ∃ b, a = -b := ⟨-a, by omega⟩
    rw [Int.neg_tmod, Int.tmod_eq_emod_of_nonneg (by omega)]
    omega
theorem modulo_any (a : Int) (w : World) : Calls Tryz.prog 175 #[.int .i64 a, .int .i64 65] w fun e w' => e = .returned (.int .i64 ((a % 65).toNat : Nat)) ∧ w = w' := by
  obtain ⟨r, hr, h2, h3, h4⟩ := mod65 a
  have hm0 : (a % 65).toNat ≤ 64 := by omega
  have q5 : (r + 65).tmod 65 = (((a % 65).toNat : Nat) : Int) := by rw [Int.tmod_eq_emod_of_nonneg (by omega), h4]; omega
  have q6 : (r + 65) % 65 = (((a % 65).toNat : Nat) : Int) := by omega
  generalize (a % 65).toNat = m at *
  have b1 : -9223372036854775808 ≤ r := by omega
  have b2 : r ≤ 9223372036854775807 := by omega
  have b3 : -9223372036854775808 ≤ r + 65 := by omega
  have b4 : r + 65 ≤ 9223372036854775807 := by omega
  have b5 : -9223372036854775808 ≤ (m : Int) := by omega
  have b6 : (m : Int) ≤ 9223372036854775807 := by omega
  have q2 := fit_w r b1 b2
  have v2 := fit_v r b1 b2
  have q3 := fit_w (r + 65) b3 b4
  have v3 := fit_v (r + 65) b3 b4
  have q7 := fit_w m b5 b6
  have v7 := fit_v m b5 b6
  clear h2 h3 h4 hm0 b1 b2 b3 b4 b5 b6
  go_enter Tryz.func175, Tryz.ntmps175
  go_wp2_with fail
  go_ret
  exact ⟨rfl, rfl⟩

set_option maxRecDepth 100000 in
set_option maxHeartbeats 4000000 in
theorem outcome_z (n : Nat) (hn : 1 ≤ n) (kv torn cut : Int) (b : Nat) (w : World) {F : Nat → Prop} {p : Nat} {img now : List UInt8} {ts : List Wr} {bd cd bn cn : Nat} {vp : Value} {st : Bool} {lf : Nat} (h : DevB w F p img now ts bd cd bn cn vp st lf) (hL : ts.length ≤ 1000)
    (hb : Boxes w b p kv torn cut) (hbd : b ≠ bd ∧ b + 1 ≠ bd ∧ b + 2 ≠ bd ∧ b + 3 ≠ bd) :
    SeqZ Fence.wide n Tryz.prog 174 (outV b) encW (Kz bd w) (fun xs => xs = cutsW (cutN kv torn cut) ts) (Zt (cutsW (cutN kv torn cut) ts)) w := fun lp J W hW hJ hY h0 => by
  have HY := Lib.hid hY
  have HJ := Lib.hid hJ
  have HD := Lib.hid h
  have HK0 := Lib.hid (show Kz bd w w W from fun k hk _ => hW.block k hk)
  have c0 := hb.dev.cell
  have cb := (show Boxed W b _ _ from (hW.block b hb.dev.lt).trans hb.dev).cell
  obtain ⟨_, _, cp, _, _, _⟩ := (h.below hW).facts
  have HB := Lib.hid hb
  have CM := Lib.hid (modulo_any cut)
  have HLen := Lib.hid (show (cutsW (cutN kv torn cut) ts).length = ts.length by simp [cutsW])
  obtain ⟨A, c, rfl, _, _⟩ := vp_form h
  clear hW hY hJ h c0 hb
  refine callsIn_of_wp Tryz.func174 rfl trivial ?_ rfl
  simp only [Tryz.ntmps174, List.size_toArray, List.length_cons, List.length_nil, Nat.reduceAdd, Nat.reduceSub, Array.replicate_succ, Array.replicate_zero, List.push_toArray, List.append_toArray, List.nil_append, List.cons_append]
  gi_wp2_with fail
  gi_loopw [14] (fun i wr => ∃ k : Nat, i = .int .i64 k ∧ k ≤ ts.length ∧ Hid (Kz bd w w wr) ∧ Hid (J ((cutsW (cutN kv torn cut) ts).take k) wr)) (fun i _ => ts.length - (intOf i).toNat)
  case atStart => exact ⟨0, rfl, Nat.zero_le _, HK0, Lib.hid (by simpa using h0)⟩
  case round =>
    obtain ⟨k, rfl, hk, hKz, hJp⟩ := hrel
    by_cases hlt : k < ts.length
    · obtain ⟨gp, cp', hvp, _, hgl⟩ := HD.out.pend.form (by omega)
      injection hvp with e1 _ e3
      subst e1 e3
      have hgn := HD.out.nep gp rfl
      have hat : ∀ j u, (ts[k].cells)[j]? = some u → j < 2 → wr.cell? ⟨gp, k * 2 + j, none⟩ = some u := fun j u hu hj => by
        have h1 := HD.out.pend.cells (g := gp) rfl (k * 2 + j) u (by rw [wrs_at ts k j hlt hj]; exact hu)
        rw [add_none, Nat.zero_add] at h1
        exact (World.cell?_of_block (w := w) (hKz.out gp hgl hgn.2.1)).trans h1
      have f0 := hat 0 _ rfl (by omega)
      have f1 := hat 1 _ rfl (by omega)
      rw [Nat.add_zero] at f0
      have ft : wr.cell? ⟨b + 2, 0, none⟩ = some (.int .i64 torn) := (World.cell?_of_block (w := w) (hKz.out _ HB.out.torn.lt hbd.2.2.1)).trans HB.out.torn.cell
      have fk : wr.cell? ⟨b + 1, 0, none⟩ = some (.int .u64 kv) := (World.cell?_of_block (w := w) (hKz.out _ HB.out.kept.lt hbd.2.1)).trans HB.out.kept.cell
      have fc : wr.cell? ⟨b + 3, 0, none⟩ = some (.int .i64 cut) := (World.cell?_of_block (w := w) (hKz.out _ HB.out.cut.lt hbd.2.2.2)).trans HB.out.cut.cell
      have g2 : b + 2 < wr.heap.size := World.block_lt_of_cell? _ _ ft
      have g1 : b + 1 < wr.heap.size := World.block_lt_of_cell? _ _ fk
      have g3 : b + 3 < wr.heap.size := World.block_lt_of_cell? _ _ fc
      have hkl : k < (cutsW (cutN kv torn cut) ts).length := by rw [HLen.out]; exact hlt
      have hxe : (cutsW (cutN kv torn cut) ts)[k] = (ts[k], cutN kv torn cut k) := by simp [cutsW]
      have hz := Zt.at hkl
      have htk := List.take_succ_eq_append_getElem hkl
      rw [hxe] at hz htk
      have HZ := Lib.hid hz
      have HTK := Lib.hid htk
      have hcp : 64 ≤ (ts[k]).cap := by
        rcases (HD.out.wr _ (List.getElem_mem hlt)).2 with ⟨h1, _⟩ | ⟨_, _, _, h1, _, _, h2, _⟩
        · cases h1
        · injection h1 with _ _ e; rw [e]; exact h2
      clear hat hz htk hxe
      generalize ts[k] = t at *
      have HJA := Lib.hid (HJ.out _ _ _ hJp.out (grown_drew (.cells #[.int .i64 (t.sec : Int), sl t.g 64 t.cap] 242)))
      have HKA := Lib.hid (Kz_t hKz.out (Kz_alloc hKz.out (.cells #[.int .i64 (t.sec : Int), sl t.g 64 t.cap] 242)))
      obtain ⟨m, hm⟩ : ∃ m, cutN kv torn cut k = m := ⟨_, rfl⟩
      have hcases : ((k : Int) = torn ∧ (cut % 65).toNat = m) ∨ (¬ (k : Int) = torn ∧ bits BinOp.and IntKind.u64 (kv / 2 ^ (k % 64)) 1 = 1 ∧ m = 64) ∨ (¬ (k : Int) = torn ∧ ¬ bits BinOp.and IntKind.u64 (kv / 2 ^ (k % 64)) 1 = 1 ∧ m = 0) := by
        unfold cutN at hm
        split at hm
        · rename_i h; exact .inl ⟨h, hm⟩
        · rename_i h
          split at hm
          · rename_i h2; exact .inr (.inl ⟨h, h2, hm.symm⟩)
          · rename_i h2; exact .inr (.inr ⟨h, h2, hm.symm⟩)
      have hm64 : m ≤ 64 := hm ▸ cutN_le kv torn cut k
      rw [hm] at HZ HTK
      obtain ⟨fn, tmps, assign, body, hy, hR⟩ := HY.out _ (t, m) _ HJA.out HZ.out
      dsimp only [encW] at hy
      have HRd := Lib.hid hR
      have HY2 := Lib.hid hy
      have hcm := fun W => cut_to t.g 64 t.cap m (m : Int) rfl hm64 hcp (by omega) W
      clear hR hy hm hm64
      rcases hcases with ⟨h1, h2⟩ | ⟨h1, h2, h3⟩ | ⟨h1, h2, h3⟩
      · have q1 : ((k : Int) == torn) = true := by rw [beq_iff_eq]; exact h1
        have CM2 := CM.out
        rw [h2] at CM2
        have HCM := Lib.hid CM2
        clear CM2 CM h1 h2
        have hy := HY2.out
        gi_wp2_with fail
        refine ⟨trivial, (callsIn_wide.2 (HCM.out _)).mono ?_⟩
        rintro e w3 ⟨rfl, rfl⟩
        gi_wp2_with fail
        gi_region_with (refine HRd.out.mono ?_; rintro e w3 ⟨rfl, hJ3, hk3⟩; have HJ3 := Lib.hid hJ3; have HK3 := Lib.hid (Kz_t HKA.out hk3); clear hJ3 hk3)
        all_goals
          clear hcm hy HY2 HRd HJA HKA HCM f0 f1 ft fk fc g1 g2 g3 q1
          gi_wp2_with fail
          go_roundw
          case rel => exact ⟨k + 1, by go_num, by omega, HK3, Lib.hid (by rw [HTK.out]; exact HJ3.out)⟩
          case measure => simp [intOf]; omega
      · have q1 : ((k : Int) == torn) = false := by rw [beq_eq_false_iff_ne]; exact h1
        have q2 : (bits BinOp.and IntKind.u64 (kv / 2 ^ (k % 64)) 1 == 1) = true := by rw [beq_iff_eq]; exact h2
        subst h3
        clear CM h1 h2
        have hy := HY2.out
        gi_wp2_with fail
        gi_region_with (refine HRd.out.mono ?_; rintro e w3 ⟨rfl, hJ3, hk3⟩; have HJ3 := Lib.hid hJ3; have HK3 := Lib.hid (Kz_t HKA.out hk3); clear hJ3 hk3)
        all_goals
          clear hcm hy HY2 HRd HJA HKA f0 f1 ft fk fc g1 g2 g3 q1 q2
          gi_wp2_with fail
          go_roundw
          case rel => exact ⟨k + 1, by go_num, by omega, HK3, Lib.hid (by rw [HTK.out]; exact HJ3.out)⟩
          case measure => simp [intOf]; omega
      · have q1 : ((k : Int) == torn) = false := by rw [beq_eq_false_iff_ne]; exact h1
        have q2 : (bits BinOp.and IntKind.u64 (kv / 2 ^ (k % 64)) 1 == 1) = false := by rw [beq_eq_false_iff_ne]; exact h2
        subst h3
        clear CM h1 h2
        have hy := HY2.out
        gi_wp2_with fail
        gi_region_with (refine HRd.out.mono ?_; rintro e w3 ⟨rfl, hJ3, hk3⟩; have HJ3 := Lib.hid hJ3; have HK3 := Lib.hid (Kz_t HKA.out hk3); clear hJ3 hk3)
        all_goals
          clear hcm hy HY2 HRd HJA HKA f0 f1 ft fk fc g1 g2 g3 q1 q2
          gi_wp2_with fail
          go_roundw
          case rel => exact ⟨k + 1, by go_num, by omega, HK3, Lib.hid (by rw [HTK.out]; exact HJ3.out)⟩
          case measure => simp [intOf]; omega
    · have hke : k = ts.length := by omega
      subst hke
      gi_wp2_with fail
      go_end0
      refine ⟨⟨_, rfl⟩, _, ?_, hJp.out⟩
      rw [← HLen.out, List.take_length]
end Go.Proofs.YtiafamacjpgjoaaGreatDoor
